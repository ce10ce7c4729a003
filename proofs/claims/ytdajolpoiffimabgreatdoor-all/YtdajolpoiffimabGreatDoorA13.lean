import Derived.Test.YtdajolpoiffimabGreatDoorA12

namespace Go.Proofs.YtdajolpoiffimabGreatDoor
open Go.RowKit
attribute [local go_sem ↓] Go.wp_at_zero Go.wp_at_succ
theorem eu {B:Nat}{a w:World}{R:Nat} (h:Below B a w) (hR:B≤R) {v0 v1 O v3 J U V Y Z Q G I d e:Value}:Below B a ((((((((((((((w.setCell ⟨R,0,none⟩ v0).setCell ⟨R,1,none⟩ v1).setCell ⟨R,2,none⟩ O).setCell ⟨R,3,none⟩ v3).setCell ⟨R,4,none⟩ J).setCell ⟨R,5,none⟩ U).setCell ⟨R,6,none⟩ V).setCell ⟨R,7,none⟩ Y).setCell ⟨R,8,none⟩ Z).setCell ⟨R,9,none⟩ Q).setCell ⟨R,10,none⟩ G).setCell ⟨R,11,none⟩ I).setCell ⟨R,12,none⟩ d).setCell ⟨R,13,none⟩ e):=
 ((((((((((((((h.setCell hR _).setCell hR _).setCell hR _).setCell hR _).setCell hR _).setCell hR _).setCell hR _).setCell hR _).setCell hR _).setCell hR _).setCell hR _).setCell hR _).setCell hR _).setCell hR _)
theorem iN {w:World}{R x o:Nat}{u v0 v1 U v3 Q Y Z v7 v8 V J O G I:Value} (af:R<x) (h:w.cell? ⟨x,o,none⟩=some u):((((((((((((((w.setCell ⟨R,0,none⟩ v0).setCell ⟨R,1,none⟩ v1).setCell ⟨R,2,none⟩ U).setCell ⟨R,3,none⟩ v3).setCell ⟨R,4,none⟩ Q).setCell ⟨R,5,none⟩ Y).setCell ⟨R,6,none⟩ Z).setCell ⟨R,7,none⟩ v7).setCell ⟨R,8,none⟩ v8).setCell ⟨R,9,none⟩ V).setCell ⟨R,10,none⟩ J).setCell ⟨R,11,none⟩ O).setCell ⟨R,12,none⟩ G).setCell ⟨R,13,none⟩ I).cell? ⟨x,o,none⟩=some u:=by
 have d:∀j:Nat,(⟨R,j,none⟩:Addr)≠⟨x,o,none⟩:=fun j e=>by cases e;omega
 rw[World.cell?_setCell_other _ _ _ _ (d _),World.cell?_setCell_other _ _ _ _ (d _),World.cell?_setCell_other _ _ _ _ (d _),World.cell?_setCell_other _ _ _ _ (d _),World.cell?_setCell_other _ _ _ _ (d _),World.cell?_setCell_other _ _ _ _ (d _),World.cell?_setCell_other _ _ _ _ (d _),World.cell?_setCell_other _ _ _ _ (d _),World.cell?_setCell_other _ _ _ _ (d _),World.cell?_setCell_other _ _ _ _ (d _),World.cell?_setCell_other _ _ _ _ (d _),World.cell?_setCell_other _ _ _ _ (d _),World.cell?_setCell_other _ _ _ _ (d _),World.cell?_setCell_other _ _ _ _ (d _)];exact h
theorem qH {w:World}{R d size n:Nat}{e:TypeId}{v:Value}{G:List Value}{v0 v1 V v3 U Z v6 v7 v8 Y O Q I J:Value} (h:w.ownsRow d e size v n G) (hR:R<d):((((((((((((((w.setCell ⟨R,0,none⟩ v0).setCell ⟨R,1,none⟩ v1).setCell ⟨R,2,none⟩ V).setCell ⟨R,3,none⟩ v3).setCell ⟨R,4,none⟩ U).setCell ⟨R,5,none⟩ Z).setCell ⟨R,6,none⟩ v6).setCell ⟨R,7,none⟩ v7).setCell ⟨R,8,none⟩ v8).setCell ⟨R,9,none⟩ Y).setCell ⟨R,10,none⟩ O).setCell ⟨R,11,none⟩ Q).setCell ⟨R,12,none⟩ I).setCell ⟨R,13,none⟩ J).ownsRow d e size v n G:=by
 have q:∀(w:World) (j:Nat) (u:Value),w.ownsRow d e size v n G→(w.setCell ⟨R,j,none⟩ u).ownsRow d e size v n G:=fun w j u h=>ownsRow_setCell_below h (by simpa using hR) u
 exact (q _ _ _ (q _ _ _ (q _ _ _ (q _ _ _ (q _ _ _ (q _ _ _ (q _ _ _ (q _ _ _ (q _ _ _ (q _ _ _ (q _ _ _ (q _ _ _ (q _ _ _ (q _ _ _ h))))))))))))))
abbrev zeroLine:Value:=.agg #[.bool false,.slice none 0 0,.bool false,.slice none 0 0,.bool false,.slice none 0 0,.bool false,.slice none 0 0,.bool false,.slice none 0 0,.bool false,.int .u8 0,.int .i64 0,.slice none 0 0]
abbrev lineV (s:ByteArray) (bb cc:Nat→Nat) (sv:Value):Value:=.agg #[.bool (Txt.opn (pt s 0)),.slice (some ⟨bb 0,0,none⟩) (Txt.pcs 44 (pt s 0)).length (cc 0),.bool (Txt.opn (pt s 1)),.slice (some ⟨bb 1,0,none⟩) (Txt.pcs 44 (pt s 1)).length (cc 1),.bool (Txt.opn (pt s 2)),.slice (some ⟨bb 2,0,none⟩) (Txt.pcs 44 (pt s 2)).length (cc 2),.bool (Txt.opn (pt s 3)),.slice (some ⟨bb 3,0,none⟩) (Txt.pcs 44 (pt s 3)).length (cc 3),.bool (Txt.opn (pt s 4)),.slice (some ⟨bb 4,0,none⟩) (Txt.pcs 44 (pt s 4)).length (cc 4),.bool (obt (pt s 5) 0==120),.int .u8 (obt (pt s 5) 1),.int .i64 (obt (pt s 5) 2-48),sv]
theorem qG {w:World}{G d:Nat}{e:TypeId}{size:Nat}{v:Value}{n:Nat}{J:List Value} (h:w.ownsRow G e size v n J) (hb:d≤G):w.ownsRow d e size v n J:=by
 refine⟨h.1,?_⟩
 rcases h.2 with h2|⟨g,I,cur,Q,hbase,O⟩
 ·exact Or.inl h2
 ·exact Or.inr ⟨g,I,cur,Q,Nat.le_trans hb hbase,O⟩
def LineR (s:ByteArray) (h:Nat) (w':World) (e:Ending):Prop:=
 (lineB s=true∧∃(bb cc:Nat→Nat) (sv:Value),e=.returned (.tuple #[lineV s bb cc sv,.bool true])∧(∀j:Nat,j<5→h≤bb j∧(Txt.pcs 44 (pt s j)).length≤cc j∧PartsAt w' (bb j) (lo j) (hi j) (Txt.pcs 44 (pt s j)))∧w'.ownsRow h 202 2 sv (stps s).length ((stps s).flatMap spC))∨
 (lineB s=false∧e=.returned (.tuple #[zeroLine,.bool false]))
set_option maxRecDepth 10000 in
set_option maxHeartbeats 0 in
theorem gQ (s:ByteArray) (w:World) (hs:s.size≤300) (hT:TabLH w):
 Calls Tryz.prog 122 #[.string s] w fun e w'=>LineR s w.heap.size w' e∧Below w.heap.size w w':=by
 have b9:0<w.heap.size∧1<w.heap.size:=⟨World.block_lt_of_cell? _ _ (hT 0 (by decide)).1,World.block_lt_of_cell? _ _ (hT 0 (by decide)).2⟩
 have br:Hid (∀o,TabLH (w.alloc o)):=fun o=>hT.later (dx _ _)
 clear hT
 go_enter Tryz.func122,Tryz.ntmps122
 go_wp2_with fail;refine (ga _ _ _ hs).mono ?_;rintro e w1 ⟨⟨b,aN,rfl,bW,cp,hS⟩,hb⟩;have cA:=Txt.pcs_len 32 s;have bp:Hid (∀o,TabLH (w1.alloc o)):=fun o=>((br.out _).later hb).later (dx _ _)
 clear br;have B1:Hid (Below w.heap.size w w1):=(dx w _).trans (hb.mono (by simp))
 have bV:w.heap.size<b:=by simp at bW;omega
 have cb:b<w1.heap.size:=World.block_lt_of_cell? _ _ (hS 0 (Txt.pcs_ne _ _));have bs:w.heap.size<w1.heap.size:=by omega
 by_cases n7:(Txt.pcs 32 s).length≤6
 ·have U:Hid (lineB s=false):=eh (fun h=>by have:=h.n7;omega)
  obtain⟨hc,hf⟩:=dU hb;clear hb hS;go_wp2_with fail;exact bodyPost_ret (v:=.tuple #[zeroLine,.bool false]) (by simp[results,Tryz.results122,go_sem,hc]) rfl ⟨Or.inr ⟨U.out,rfl⟩,eu B1.out (Nat.le_refl _)⟩
 by_cases n11:11<(Txt.pcs 32 s).length
 ·have U:Hid (lineB s=false):=eh (fun h=>by have:=h.n11;omega)
  obtain⟨hc,hf⟩:=dU hb;clear hb hS;go_wp2_with fail;exact bodyPost_ret (v:=.tuple #[zeroLine,.bool false]) (by simp[results,Tryz.results122,go_sem,hc]) rfl ⟨Or.inr ⟨U.out,rfl⟩,eu B1.out (Nat.le_refl _)⟩
 have H0:LInv w (w1.alloc (.cells #[.bool false,.slice none 0 0,.bool false,.slice none 0 0,.bool false,.slice none 0 0,.bool false,.slice none 0 0,.bool false,.slice none 0 0,.bool false,.int .u8 0,.int .i64 0,.slice none 0 0] 154)) b w1.heap.size s 0 (fun _=>0) (fun _=>0):=by
  refine⟨hS.later (dx _ _),bp.out _,?_,fun j h=>by omega,?_,?_,?_,fun j h=>by omega,B1.out.alloc (Nat.le_of_lt bs) _,bV,cb,by simp,b9⟩
  ·intro j I;have aA:j=0∨j=1∨j=2∨j=3∨j=4∨j=5∨j=6∨j=7∨j=8∨j=9∨j=10∨j=11∨j=12∨j=13:=by omega
   refine⟨cell_later (dx _ _) (cell_later hb ?_),?_⟩
   ·rcases aA with rfl|rfl|rfl|rfl|rfl|rfl|rfl|rfl|rfl|rfl|rfl|rfl|rfl|rfl<;>simp[go_sem,zc]
   ·rw[(dx w1 _).frozen (p:=⟨w.heap.size,j,none⟩) (by simpa using bs),hb.frozen (p:=⟨w.heap.size,j,none⟩) (by simp)]
    simp[go_sem]
  ·intro j _ I;have aA:j=0∨j=1∨j=2∨j=3∨j=4:=by omega
   rcases aA with rfl|rfl|rfl|rfl|rfl<;>simp[go_sem]
  ·intro j h6 I;have aA:j=10∨j=11∨j=12∨j=13:=by omega
   rcases aA with rfl|rfl|rfl|rfl<;>simp[go_sem,zc]
  ·intro j I;simp[go_sem]
 clear hb hS bp B1;go_wp2_with fail
 go_loopw [6] (fun x wr=>∃(k:Nat) (Z cc:Nat→Nat),k≤5∧x=.int .i64 k∧(∀(j:Nat),j<k→Txt.fldB (lo j) (hi j) (pt s j)=true)∧LInv w wr b w1.heap.size s k Z cc) (fun x _=>5-(intOf x).toNat)
 case atStart=>exact⟨0,_,_,by omega,rfl,fun j h=>by omega,H0⟩
 case round=>
  clear H0;obtain⟨k,Z,cc,hk,rfl,aj,G⟩:=hrel;have HA:=Hq aj;clear aj
  by_cases ai:k<5
  ·have ag:k<(Txt.pcs 32 s).length:=by omega
   have J:wr.cell? ⟨b,k,none⟩=some (.string (pt s k)):=by rw[←eN ag];exact G.strs k ag
   have zk:Hid ((pt s k).size≤300):=by rw[←eN ag];exact Txt.pcs_sz hs k ag
   obtain⟨c1,c2⟩:=G.tabs k ai;have lh:=gg k;have b0:(0:Int)≤(k:Int):=by omega
   have b1:(k:Int)<5:=by omega
   have b2:(k:Int)<((Txt.pcs 32 s).length:Int):=by omega
   have e1:=World.new_ne wr _ J;have e2:=World.new_ne wr _ c1;have e3:=World.new_ne wr _ c2;have z1:b<wr.heap.size:=World.block_lt_of_cell? _ _ J;have z2:0<wr.heap.size:=World.block_lt_of_cell? _ _ c1;have z3:1<wr.heap.size:=World.block_lt_of_cell? _ _ c2;go_wp2_with fail
   go_region_held3 (fun w'=>w'.cell? ⟨b,k,none⟩=some (.string (pt s k))∧w'.cell? ⟨0,k,none⟩=some (.int .i64 (lo k))∧w'.cell? ⟨1,k,none⟩=some (.int .i64 (hi k))) (first |exact⟨cell_later af J,cell_later af c1,cell_later af c2⟩|exact⟨cell_later (af.alloc af.size _) J,cell_later (af.alloc af.size _) c1,cell_later (af.alloc af.size _) c2⟩|exact⟨J,c1,c2⟩|exact⟨cell_later (dx _ _) J,cell_later (dx _ _) c1,cell_later (dx _ _) c2⟩|go_keep) ((go_at_call 156;refine (jh _ _ _ _ zk.out (by omega) (by omega) (by omega) (by omega)).mono ?_;rintro e O ⟨o,ad,n,c,ok,rfl,hR,Y⟩;have af:Below wr.heap.size wr O:=(by first |exact (Below.refl _ _).drew.trans Y|exact (dx _ _).drew.trans (Y.mono (by simp)));obtain⟨cJ,cK⟩:=dU Y))
   ·have F:Flat (lo k) (hi k) (pt s k) wr (O.alloc (.cells #[.bool o,.slice ad n c] 148)) O.heap.size o ad n c ok:=tK hR.out Y _;clear hR Y;generalize O.alloc (.cells #[.bool o,.slice ad n c] 148)=W3 at *;generalize O.heap.size=q at *;obtain⟨HB,g0,g1,hF⟩:=F;have d:=G.below HB;have z4:w.heap.size<W3.heap.size:=by have:=d.hR;have:=d.hb;have:=d.hL;omega
    have b6:=G.hL;clear G J c1 c2 e1 e2 e3 z1 z2 z3 HB
    rcases hF with ⟨kk,rfl,rfl,b',rfl,rfl,bz,aU,hP⟩|⟨kk,rfl,rfl,rfl,rfl,rfl⟩
    ·have U:=Hq kk;have aC:Hid _:=d.store ai (by omega) aU hP
     obtain⟨y0,y1⟩:=d.ln2 k (Nat.le_refl _) ai;have y2:=d.lnf (k*2) (by omega)
     have y3:=d.lnf (k*2+1) (by omega)
     clear kk d hP;go_wp2_with fail;go_roundw
     case rel=>
      refine⟨k+1,_,_,by omega,by go_num,fun j h=>?_,aC.out⟩
      by_cases e:j=k
      ·subst e;exact U.out
      ·exact HA.out j (by omega)
     case measure=>simp[intOf];omega
    ·have U:Hid (lineB s=false):=eh (fun h=>by have V:=h.fld k ag ai;rw[eN ag,kk] at V;cases V)
     have BB:Hid (Below w.heap.size w W3):=d.bel;have r0:_=some (Value.bool false):=(d.res 0 (by decide)).1
     have s0:=(d.res 0 (by decide)).2
     have r1:_=some (Value.slice none 0 0):=(d.res 1 (by decide)).1
     have s1:=(d.res 1 (by decide)).2
     have r2:_=some (Value.bool false):=(d.res 2 (by decide)).1
     have s2:=(d.res 2 (by decide)).2
     have r3:_=some (Value.slice none 0 0):=(d.res 3 (by decide)).1
     have s3:=(d.res 3 (by decide)).2
     have r4:_=some (Value.bool false):=(d.res 4 (by decide)).1
     have s4:=(d.res 4 (by decide)).2
     have r5:_=some (Value.slice none 0 0):=(d.res 5 (by decide)).1
     have s5:=(d.res 5 (by decide)).2
     have r6:_=some (Value.bool false):=(d.res 6 (by decide)).1
     have s6:=(d.res 6 (by decide)).2
     have r7:_=some (Value.slice none 0 0):=(d.res 7 (by decide)).1
     have s7:=(d.res 7 (by decide)).2
     have r8:_=some (Value.bool false):=(d.res 8 (by decide)).1
     have s8:=(d.res 8 (by decide)).2
     have r9:_=some (Value.slice none 0 0):=(d.res 9 (by decide)).1
     have s9:=(d.res 9 (by decide)).2
     have ae:_=some (Value.bool false):=(d.res 10 (by decide)).1
     have aK:=(d.res 10 (by decide)).2
     have ab:_=some (Value.int .u8 0):=(d.res 11 (by decide)).1
     have aH:=(d.res 11 (by decide)).2
     have ac:_=some (Value.int .i64 0):=(d.res 12 (by decide)).1
     have aJ:=(d.res 12 (by decide)).2
     have aa:_=some (Value.slice none 0 0):=(d.res 13 (by decide)).1
     have aM:=(d.res 13 (by decide)).2
     clear kk d;go_wp2_with fail;exact bodyPost_ret (v:=.tuple #[zeroLine,.bool false]) (by simp[results,Tryz.results122,go_sem,r0,r1,r2,r3,r4,r5,r6,r7,r8,r9,ae,ab,ac,aa]) rfl ⟨Or.inr ⟨U.out,rfl⟩,eu BB.out (Nat.le_refl _)⟩
   ·have F:Flat (lo k) (hi k) (pt s k) wr ((O.setCell ⟨wr.heap.size,0,none⟩ (.bool o)).setCell ⟨wr.heap.size,1,none⟩ (.slice ad n c)) wr.heap.size o ad n c ok:=tA hR.out Y;clear hR Y;generalize (O.setCell ⟨wr.heap.size,0,none⟩ (.bool o)).setCell ⟨wr.heap.size,1,none⟩ (.slice ad n c)=W3 at *;obtain⟨HB,g0,g1,hF⟩:=F;have d:=G.below HB;have z4:w.heap.size<W3.heap.size:=by have:=d.hR;have:=d.hb;have:=d.hL;omega
    have b6:=G.hL;clear G J c1 c2 e1 e2 e3 z1 z2 z3 HB
    rcases hF with ⟨kk,rfl,rfl,b',rfl,rfl,bz,aU,hP⟩|⟨kk,rfl,rfl,rfl,rfl,rfl⟩
    ·have U:=Hq kk;have aC:Hid _:=d.store ai (by omega) aU hP
     obtain⟨y0,y1⟩:=d.ln2 k (Nat.le_refl _) ai;have y2:=d.lnf (k*2) (by omega)
     have y3:=d.lnf (k*2+1) (by omega)
     clear kk d hP;go_wp2_with fail;go_roundw
     case rel=>
      refine⟨k+1,_,_,by omega,by go_num,fun j h=>?_,aC.out⟩
      by_cases e:j=k
      ·subst e;exact U.out
      ·exact HA.out j (by omega)
     case measure=>simp[intOf];omega
    ·have U:Hid (lineB s=false):=eh (fun h=>by have V:=h.fld k ag ai;rw[eN ag,kk] at V;cases V)
     have BB:Hid (Below w.heap.size w W3):=d.bel;have r0:_=some (Value.bool false):=(d.res 0 (by decide)).1
     have s0:=(d.res 0 (by decide)).2
     have r1:_=some (Value.slice none 0 0):=(d.res 1 (by decide)).1
     have s1:=(d.res 1 (by decide)).2
     have r2:_=some (Value.bool false):=(d.res 2 (by decide)).1
     have s2:=(d.res 2 (by decide)).2
     have r3:_=some (Value.slice none 0 0):=(d.res 3 (by decide)).1
     have s3:=(d.res 3 (by decide)).2
     have r4:_=some (Value.bool false):=(d.res 4 (by decide)).1
     have s4:=(d.res 4 (by decide)).2
     have r5:_=some (Value.slice none 0 0):=(d.res 5 (by decide)).1
     have s5:=(d.res 5 (by decide)).2
     have r6:_=some (Value.bool false):=(d.res 6 (by decide)).1
     have s6:=(d.res 6 (by decide)).2
     have r7:_=some (Value.slice none 0 0):=(d.res 7 (by decide)).1
     have s7:=(d.res 7 (by decide)).2
     have r8:_=some (Value.bool false):=(d.res 8 (by decide)).1
     have s8:=(d.res 8 (by decide)).2
     have r9:_=some (Value.slice none 0 0):=(d.res 9 (by decide)).1
     have s9:=(d.res 9 (by decide)).2
     have ae:_=some (Value.bool false):=(d.res 10 (by decide)).1
     have aK:=(d.res 10 (by decide)).2
     have ab:_=some (Value.int .u8 0):=(d.res 11 (by decide)).1
     have aH:=(d.res 11 (by decide)).2
     have ac:_=some (Value.int .i64 0):=(d.res 12 (by decide)).1
     have aJ:=(d.res 12 (by decide)).2
     have aa:_=some (Value.slice none 0 0):=(d.res 13 (by decide)).1
     have aM:=(d.res 13 (by decide)).2
     clear kk d;go_wp2_with fail;exact bodyPost_ret (v:=.tuple #[zeroLine,.bool false]) (by simp[results,Tryz.results122,go_sem,r0,r1,r2,r3,r4,r5,r6,r7,r8,r9,ae,ab,ac,aa]) rfl ⟨Or.inr ⟨U.out,rfl⟩,eu BB.out (Nat.le_refl _)⟩
  ·obtain rfl:k=5:=by omega
   have h5:5<(Txt.pcs 32 s).length:=by omega
   have c5:wr.cell? ⟨b,5,none⟩=some (.string (pt s 5)):=by rw[←eN h5];exact G.strs 5 h5
   have zk:Hid ((pt s 5).size≤300):=by rw[←eN h5];exact Txt.pcs_sz hs 5 h5
   go_wp2_with fail;refine (iZ _ _ zk.out).mono ?_;rintro e O ⟨hO,Y⟩;have Q:=G.below Y;clear G Y c5;have z4:w.heap.size<O.heap.size:=by have:=Q.hR;have:=Q.hb;have:=Q.hL;omega
   rcases hO with ⟨ho,rfl⟩|⟨ho,rfl⟩
   rotate_left
   ·have U:Hid (lineB s=false):=eh (fun h=>by have V:=h.opt h5;rw[eN h5,ho] at V;cases V)
    have d:=Q.below (dx O (.cells #[.bool false,.int .u8 0,.int .i64 0] 151));clear Q ho;go_upto_region 13 with fail;generalize O.alloc (.cells #[.bool false,.int .u8 0,.int .i64 0] 151)=W3 at *;have BB:Hid (Below w.heap.size w W3):=d.bel;have r0:_=some (Value.bool false):=(d.res 0 (by decide)).1
    have s0:=(d.res 0 (by decide)).2
    have r1:_=some (Value.slice none 0 0):=(d.res 1 (by decide)).1
    have s1:=(d.res 1 (by decide)).2
    have r2:_=some (Value.bool false):=(d.res 2 (by decide)).1
    have s2:=(d.res 2 (by decide)).2
    have r3:_=some (Value.slice none 0 0):=(d.res 3 (by decide)).1
    have s3:=(d.res 3 (by decide)).2
    have r4:_=some (Value.bool false):=(d.res 4 (by decide)).1
    have s4:=(d.res 4 (by decide)).2
    have r5:_=some (Value.slice none 0 0):=(d.res 5 (by decide)).1
    have s5:=(d.res 5 (by decide)).2
    have r6:_=some (Value.bool false):=(d.res 6 (by decide)).1
    have s6:=(d.res 6 (by decide)).2
    have r7:_=some (Value.slice none 0 0):=(d.res 7 (by decide)).1
    have s7:=(d.res 7 (by decide)).2
    have r8:_=some (Value.bool false):=(d.res 8 (by decide)).1
    have s8:=(d.res 8 (by decide)).2
    have r9:_=some (Value.slice none 0 0):=(d.res 9 (by decide)).1
    have s9:=(d.res 9 (by decide)).2
    have ae:_=some (Value.bool false):=(d.res 10 (by decide)).1
    have aK:=(d.res 10 (by decide)).2
    have ab:_=some (Value.int .u8 0):=(d.res 11 (by decide)).1
    have aH:=(d.res 11 (by decide)).2
    have ac:_=some (Value.int .i64 0):=(d.res 12 (by decide)).1
    have aJ:=(d.res 12 (by decide)).2
    have aa:_=some (Value.slice none 0 0):=(d.res 13 (by decide)).1
    have aM:=(d.res 13 (by decide)).2
    clear d;go_wp2_with fail;exact bodyPost_ret (v:=.tuple #[zeroLine,.bool false]) (by simp[results,Tryz.results122,go_sem,r0,r1,r2,r3,r4,r5,r6,r7,r8,r9,ae,ab,ac,aa]) rfl ⟨Or.inr ⟨U.out,rfl⟩,eu BB.out (Nat.le_refl _)⟩
   ·have HO:=Hq ho;clear ho;obtain⟨i0,bx,bX,bL,bH⟩:=info_parts nR;have g0:(O.alloc (.cells #[.bool (obt (pt s 5) 0==120),.int .u8 (obt (pt s 5) 1),.int .i64 (obt (pt s 5) 2-48)] 151)).cell? ⟨O.heap.size,0,none⟩=some (.bool (obt (pt s 5) 0==120)):=by simp[go_sem]
    have g1:(O.alloc (.cells #[.bool (obt (pt s 5) 0==120),.int .u8 (obt (pt s 5) 1),.int .i64 (obt (pt s 5) 2-48)] 151)).cell? ⟨O.heap.size,1,none⟩=some (.int .u8 (obt (pt s 5) 1)):=by simp[go_sem]
    have g2:(O.alloc (.cells #[.bool (obt (pt s 5) 0==120),.int .u8 (obt (pt s 5) 1),.int .i64 (obt (pt s 5) 2-48)] 151)).cell? ⟨O.heap.size,2,none⟩=some (.int .i64 (obt (pt s 5) 2-48)):=by simp[go_sem]
    have d:=Q.below (dx O (.cells #[.bool (obt (pt s 5) 0==120),.int .u8 (obt (pt s 5) 1),.int .i64 (obt (pt s 5) 2-48)] 151));clear Q;go_upto_region 13 with fail;generalize O.alloc (.cells #[.bool (obt (pt s 5) 0==120),.int .u8 (obt (pt s 5) 1),.int .i64 (obt (pt s 5) 2-48)] 151)=W3 at *;generalize O.heap.size=q2 at *;have H1:Hid (SInv w (((W3.setCell ⟨w1.heap.size,10,none⟩ (.bool (obt (pt s 5) 0==120))).setCell ⟨w1.heap.size,11,none⟩ (.int .u8 (obt (pt s 5) 1))).setCell ⟨w1.heap.size,12,none⟩ (.int .i64 (obt (pt s 5) 2-48))) b w1.heap.size W3.heap.size s 0 Z cc (.slice none 0 0)):=SInv.start d (x:=obt (pt s 5) 0==120) rfl rfl rfl;have bT:_=some (Value.bool false):=d.ln3 10 (by decide) (by decide)
    have b8:_=some (Value.int .u8 0):=d.ln3 11 (by decide) (by decide)
    have bN:_=some (Value.int .i64 0):=d.ln3 12 (by decide) (by decide)
    have bY:=d.lnf 10 (by decide)
    have b3:=d.lnf 11 (by decide)
    have bM:=d.lnf 12 (by decide)
    clear d;go_wp2_with fail
    go_loopw [11] (fun x wr=>∃(i n:Nat) (v:Value),Hid (i=6+n)∧i≤(Txt.pcs 32 s).length∧x=.int .i64 i∧(∀(j:Nat) (I:j<(Txt.pcs 32 s).length),6≤j→j<i→Txt.stepB (Txt.pcs 32 s)[j]=true)∧SInv w wr b w1.heap.size W3.heap.size s n Z cc v) (fun x _=>(Txt.pcs 32 s).length-(intOf x).toNat)
    case atStart=>exact⟨6,0,_,rfl,by omega,rfl,fun j _ h V=>by omega,H1.out⟩
    case round=>
     clear H1 bT b8 bN bY b3 bM g0 g1 g2;obtain⟨i,n,v,HN,hn,rfl,aj,G⟩:=hrel;have HT:=Hq aj;clear aj;have bk:=G.hL;have cI:=G.hbase
     by_cases aY:i<(Txt.pcs 32 s).length
     ·have aB:wr.cell? ⟨b,i,none⟩=some (.string (Txt.pcs 32 s)[i]):=G.strs i aY;have zi:Hid ((Txt.pcs 32 s)[i].size≤300):=Txt.pcs_sz hs i aY;have b1:(0:Int)≤(i:Int):=by omega
      have b2:(i:Int)<((Txt.pcs 32 s).length:Int):=by omega
      have aV:Hid (n<(stps s).length):=by have:=HN.out;unfold Hid;rw[iM];omega
      have HX:Hid ((stps s)[n]'aV.out=(Txt.pcs 32 s)[i]):=by
       have:=HN.out;subst this;exact rT aV.out
      have bo:Hid (∃x,(Txt.pcs 32 s)[i]=x):=⟨_,rfl⟩;obtain⟨x,aF⟩:=bo.out;have HG:=Hq aF;rw[aF] at aB zi HX;clear aF bo;go_wp2_with fail;refine (kw _ _ zi.out).mono ?_;rintro e w3 ⟨hR,bj⟩;have Q:=G.below bj;clear G bj aB
      rcases hR with ⟨hq,rfl⟩|⟨hq,rfl⟩
      ·have HQ:=Hq hq;have g0:(w3.alloc (.cells #[.bool (sayB x),.string (x.extract 1 x.size)] 202)).cell? ⟨w3.heap.size,0,none⟩=some (.bool (sayB x)):=by simp[go_sem]
       have g1:(w3.alloc (.cells #[.bool (sayB x),.string (x.extract 1 x.size)] 202)).cell? ⟨w3.heap.size,1,none⟩=some (.string (x.extract 1 x.size)):=by simp[go_sem]
       have d:=Q.below (dx w3 (.cells #[.bool (sayB x),.string (x.extract 1 x.size)] 202));clear hq Q;go_upto_region 20 with fail;generalize w3.alloc (.cells #[.bool (sayB x),.string (x.extract 1 x.size)] 202)=W4 at *;generalize w3.heap.size=q3 at *;have bZ:Hid (W3.heap.size≤W4.heap.size):=d.hbase;have bm:=d.o3;have zL:w1.heap.size<W4.heap.size:=by have:=d.hL;have:=d.hbase;omega
       have bn:Hid (W4.ownsRow W3.heap.size 202 2 v n (((stps s).take n).flatMap spC)):=d.own;have cG:n≤300:=by have:=HN.out;omega
       go_wp2_with (at_builtin;refine wpList_append_lies _ rfl (.tmp 81) (.tmp 83) 152 rfl W3.heap.size 202 i0 (.agg #[.bool false,.string ByteArray.empty]) 2 24 Tryz.underlying152 bx bX bL bH rfl (by decide) _ _ _ rfl (bn.out.alloc _) ⟨W4.heap.size,0,none⟩ 1 1 (spC x) rfl rfl ?c1 (ru x) (by decide) ?c3 ?c4 ?c5 _ rfl ?_)
       case c1=>
        intro j u I
        match j,I with
        | 0,I=>simp[spC] at I;subst I;simp[Addr.add,go_sem]
        | 1,I=>simp[spC] at I;subst I;simp[Addr.add,go_sem]
       case c3=>unfold maxLen;omega
       case c4=>omega
       case c5=>have:=bZ.out;simp;omega
       ·intro g' bw w4 aL az _ cg;have aD:=d.below (dx W4 (.cells #[.bool (sayB x),.string (x.extract 1 x.size)] 202))
        have aI:w4.ownsRow W3.heap.size 202 2 (.slice (some ⟨g',0,none⟩) (n+1) bw) (n+1) (((stps s).take (n+1)).flatMap spC):=by
         rw[List.take_succ_eq_append_getElem aV.out,List.flatMap_append,HX.out]
         simpa using aL
        have HF:=aD.far az;have aC:=aD.app az aI;have d1:w4.cell? ⟨w1.heap.size,13,none⟩=some v:=(HF.cell (by simpa using bk)).trans aD.o3
        have d2:w4.frozen? ⟨w1.heap.size,13,none⟩=false:=(HF.frozen (by simpa using bk)).trans (aD.lnf 13 (by decide))
        clear aL aI az d aD HF bm bn g0 g1;go_wp2_with fail;go_roundw
        case rel=>
         refine⟨i+1,n+1,_,by have:=HN.out;unfold Hid;omega,by omega,by go_num,fun j I h1 h=>?_,aC⟩
         by_cases q:j=i
         ·subst q;rw[HG.out];exact HQ.out
         ·exact HT.out j I h1 (by omega)
        case measure=>simp[intOf];omega
      ·have U:Hid (lineB s=false):=eh (fun h=>by have V:=h.stp i aY (by have:=HN.out;omega);rw[HG.out,hq] at V;cases V)
       have d:=Q.below (dx w3 (.cells #[.bool false,.string ByteArray.empty] 202));clear Q hq;go_upto_region 20 with fail;generalize w3.alloc (.cells #[.bool false,.string ByteArray.empty] 202)=W4 at *;have BB:Hid (Below w.heap.size w W4):=d.bel;have r0:_=some (Value.bool false):=(d.res 0 (by decide)).1
       have s0:=(d.res 0 (by decide)).2
       have r1:_=some (Value.slice none 0 0):=(d.res 1 (by decide)).1
       have s1:=(d.res 1 (by decide)).2
       have r2:_=some (Value.bool false):=(d.res 2 (by decide)).1
       have s2:=(d.res 2 (by decide)).2
       have r3:_=some (Value.slice none 0 0):=(d.res 3 (by decide)).1
       have s3:=(d.res 3 (by decide)).2
       have r4:_=some (Value.bool false):=(d.res 4 (by decide)).1
       have s4:=(d.res 4 (by decide)).2
       have r5:_=some (Value.slice none 0 0):=(d.res 5 (by decide)).1
       have s5:=(d.res 5 (by decide)).2
       have r6:_=some (Value.bool false):=(d.res 6 (by decide)).1
       have s6:=(d.res 6 (by decide)).2
       have r7:_=some (Value.slice none 0 0):=(d.res 7 (by decide)).1
       have s7:=(d.res 7 (by decide)).2
       have r8:_=some (Value.bool false):=(d.res 8 (by decide)).1
       have s8:=(d.res 8 (by decide)).2
       have r9:_=some (Value.slice none 0 0):=(d.res 9 (by decide)).1
       have s9:=(d.res 9 (by decide)).2
       have ae:_=some (Value.bool false):=(d.res 10 (by decide)).1
       have aK:=(d.res 10 (by decide)).2
       have ab:_=some (Value.int .u8 0):=(d.res 11 (by decide)).1
       have aH:=(d.res 11 (by decide)).2
       have ac:_=some (Value.int .i64 0):=(d.res 12 (by decide)).1
       have aJ:=(d.res 12 (by decide)).2
       have aa:_=some (Value.slice none 0 0):=(d.res 13 (by decide)).1
       have aM:=(d.res 13 (by decide)).2
       clear d;go_wp2_with fail;exact bodyPost_ret (v:=.tuple #[zeroLine,.bool false]) (by simp[results,Tryz.results122,go_sem,r0,r1,r2,r3,r4,r5,r6,r7,r8,r9,ae,ab,ac,aa]) rfl ⟨Or.inr ⟨U.out,rfl⟩,eu BB.out (Nat.le_refl _)⟩
     ·have bq:n=(stps s).length:=by have:=HN.out;rw[iM];omega
      have U:Hid (lineB s=true):=jG ⟨by omega,by omega,fun j h V=>by rw[eN h];exact HA.out j V,fun _=>by rw[eN h5];exact HO.out,fun j h V=>HT.out j h V (by omega)⟩
      have BB:Hid (Below w.heap.size w wr):=G.bel;have HP:Hid (∀j:Nat,j<5→w.heap.size≤Z j∧(Txt.pcs 44 (pt s j)).length≤cc j∧PartsAt wr (Z j) (lo j) (hi j) (Txt.pcs 44 (pt s j))):=fun j I=>⟨by have:=(G.prt j I).1;omega,(G.prt j I).2.2⟩
      have HQ:Hid (∀j:Nat,j<5→w.heap.size<Z j):=fun j I=>by have:=(G.prt j I).1;omega
      have HW:Hid (wr.ownsRow W3.heap.size 202 2 v (stps s).length ((stps s).flatMap spC)):=by
       have:=G.own;rw[bq,List.take_length] at this;exact this
      have z6:w.heap.size<wr.heap.size:=by omega
      have r0:_=some (Value.bool false):=(G.res 0 (by decide)).1
      have s0:=(G.res 0 (by decide)).2
      have r1:_=some (Value.slice none 0 0):=(G.res 1 (by decide)).1
      have s1:=(G.res 1 (by decide)).2
      have r2:_=some (Value.bool false):=(G.res 2 (by decide)).1
      have s2:=(G.res 2 (by decide)).2
      have r3:_=some (Value.slice none 0 0):=(G.res 3 (by decide)).1
      have s3:=(G.res 3 (by decide)).2
      have r4:_=some (Value.bool false):=(G.res 4 (by decide)).1
      have s4:=(G.res 4 (by decide)).2
      have r5:_=some (Value.slice none 0 0):=(G.res 5 (by decide)).1
      have s5:=(G.res 5 (by decide)).2
      have r6:_=some (Value.bool false):=(G.res 6 (by decide)).1
      have s6:=(G.res 6 (by decide)).2
      have r7:_=some (Value.slice none 0 0):=(G.res 7 (by decide)).1
      have s7:=(G.res 7 (by decide)).2
      have r8:_=some (Value.bool false):=(G.res 8 (by decide)).1
      have s8:=(G.res 8 (by decide)).2
      have r9:_=some (Value.slice none 0 0):=(G.res 9 (by decide)).1
      have s9:=(G.res 9 (by decide)).2
      have ae:_=some (Value.bool false):=(G.res 10 (by decide)).1
      have aK:=(G.res 10 (by decide)).2
      have ab:_=some (Value.int .u8 0):=(G.res 11 (by decide)).1
      have aH:=(G.res 11 (by decide)).2
      have ac:_=some (Value.int .i64 0):=(G.res 12 (by decide)).1
      have aJ:=(G.res 12 (by decide)).2
      have aa:_=some (Value.slice none 0 0):=(G.res 13 (by decide)).1
      have aM:=(G.res 13 (by decide)).2
      have d0:_=some (Value.bool (Txt.opn (pt s 0))):=(G.ln1 0 (by decide)).1
      have d1:_=some (Value.slice (some ⟨Z 0,0,none⟩) (Txt.pcs 44 (pt s 0)).length (cc 0)):=(G.ln1 0 (by decide)).2
      have d2:_=some (Value.bool (Txt.opn (pt s 1))):=(G.ln1 1 (by decide)).1
      have d3:_=some (Value.slice (some ⟨Z 1,0,none⟩) (Txt.pcs 44 (pt s 1)).length (cc 1)):=(G.ln1 1 (by decide)).2
      have d4:_=some (Value.bool (Txt.opn (pt s 2))):=(G.ln1 2 (by decide)).1
      have d5:_=some (Value.slice (some ⟨Z 2,0,none⟩) (Txt.pcs 44 (pt s 2)).length (cc 2)):=(G.ln1 2 (by decide)).2
      have d6:_=some (Value.bool (Txt.opn (pt s 3))):=(G.ln1 3 (by decide)).1
      have d7:_=some (Value.slice (some ⟨Z 3,0,none⟩) (Txt.pcs 44 (pt s 3)).length (cc 3)):=(G.ln1 3 (by decide)).2
      have d8:_=some (Value.bool (Txt.opn (pt s 4))):=(G.ln1 4 (by decide)).1
      have d9:_=some (Value.slice (some ⟨Z 4,0,none⟩) (Txt.pcs 44 (pt s 4)).length (cc 4)):=(G.ln1 4 (by decide)).2
      have cF:=G.o0;have cH:=G.o1;have cE:=G.o2;have bm:=G.o3;simp only [Nat.zero_mul,Nat.zero_add,Nat.one_mul,Nat.reduceMul,Nat.reduceAdd] at d0 d1 d2 d3 d4 d5 d6 d7 d8 d9
      obtain⟨bS,bD,bO⟩:∃ad aN,v=.slice ad (stps s).length aN:=by
       obtain⟨ad,aN,e,_⟩:=(RowAt.of_own HW.out).form;exact⟨ad,aN,e⟩
      subst bO;clear G bq;go_wp2_with fail;refine bodyPost_ret (v:=.tuple #[lineV s Z cc (.slice bS (stps s).length bD),.bool true]) (by simp[results,Tryz.results122,go_sem,r0,r1,r2,r3,r4,r5,r6,r7,r8,r9,ae,ab,ac,aa]) rfl ⟨Or.inl ⟨U.out,Z,cc,_,rfl,fun j I=>⟨(HP.out j I).1,(HP.out j I).2.1,?_⟩,qG (qH HW.out (by omega)) (by omega)⟩,eu BB.out (Nat.le_refl _)⟩
      have aT:=HQ.out j I;intro t ht;obtain⟨p0,p1,p2⟩:=(HP.out j I).2.2 t ht;exact⟨iN aT p0,iN aT p1,iN aT p2⟩
end Go.Proofs.YtdajolpoiffimabGreatDoor

namespace Go.Proofs.YtdajolpoiffimabGreatDoor
open Go.RowKit
def lcells (s:ByteArray) (bb cc:Nat→Nat) (sv:Value):List Value:=[.bool (Txt.opn (pt s 0)),.slice (some ⟨bb 0,0,none⟩) (Txt.pcs 44 (pt s 0)).length (cc 0),.bool (Txt.opn (pt s 1)),.slice (some ⟨bb 1,0,none⟩) (Txt.pcs 44 (pt s 1)).length (cc 1),.bool (Txt.opn (pt s 2)),.slice (some ⟨bb 2,0,none⟩) (Txt.pcs 44 (pt s 2)).length (cc 2),.bool (Txt.opn (pt s 3)),.slice (some ⟨bb 3,0,none⟩) (Txt.pcs 44 (pt s 3)).length (cc 3),.bool (Txt.opn (pt s 4)),.slice (some ⟨bb 4,0,none⟩) (Txt.pcs 44 (pt s 4)).length (cc 4),.bool (obt (pt s 5) 0==120),.int .u8 (obt (pt s 5) 1),.int .i64 (obt (pt s 5) 2-48),sv]
def StepsAt (w:World) (s:ByteArray) (sv:Value):Prop:=TRow w 202 sv (stps s).length ((stps s).flatMap spC)
def LineAt (w:World) (s:ByteArray) (bb cc:Nat→Nat):Prop:=∀t:Nat,t<5→(Txt.pcs 44 (pt s t)).length≤cc t∧PartsAt w (bb t) (lo t) (hi t) (Txt.pcs 44 (pt s t))
def PLinesAt (w:World) (g:Nat) (s:ByteArray):Prop:=∀i:Nat,i<tn s→∃(bb cc:Nat→Nat) (sv:Value),(∀j:Nat,j<14→w.cell? ⟨g,i*14+j,none⟩=(lcells (tl s i) bb cc sv)[j]?)∧LineAt w (tl s i) bb cc∧StepsAt w (tl s i) sv
theorem LineAt.later {w G:World}{s:ByteArray}{d e:Nat→Nat} (h:LineAt w s d e) (q:Below w.heap.size w G):LineAt G s d e:=fun t I=>⟨(h t I).1,(h t I).2.later q⟩
theorem lL (s:ByteArray) (w e:Nat→Nat) (d:Value) (j:Nat) (G:j<14):∃v,(lcells s w e d)[j]? =some v:=⟨(lcells s w e d)[j]'(by simp[lcells];omega),by simp⟩
theorem PLinesAt.later {w J:World}{g:Nat}{s:ByteArray} (h:PLinesAt w g s) (q:Below w.heap.size w J):PLinesAt J g s:=by
 intro i hi;obtain⟨G,d,e,h1,h2,O⟩:=h i hi;refine⟨G,d,e,fun j I=>?_,h2.later q,TRow.later O q⟩
 obtain⟨v,Q⟩:=lL (tl s i) G d e j I;have:=h1 j I;rw[Q] at this ⊢;exact cell_later q this
theorem PartsAt.lt {w:World}{x:Nat}{l g:Int}{p:ByteArray} (h:PartsAt w x l g (Txt.pcs 44 p)):x<w.heap.size:=World.block_lt_of_cell? _ _ (h 0 (Txt.pcs_ne _ _)).1
structure RInv (w wr:World) (base b:Nat) (s:ByteArray) (k:Nat) (v:Value) (xs:List Value):Prop where
 strs:StrsAt wr b (Txt.pcs 10 s)
 tabs:TabLH wr
 c0:wr.cell? ⟨w.heap.size,0,none⟩=some (.slice none 0 0)
 c1:wr.cell? ⟨w.heap.size,1,none⟩=some (.int .i64 0)
 c2:wr.cell? ⟨w.heap.size,2,none⟩=some (.int .i64 0)
 f0:wr.frozen? ⟨w.heap.size,0,none⟩=false
 f1:wr.frozen? ⟨w.heap.size,1,none⟩=false
 f2:wr.frozen? ⟨w.heap.size,2,none⟩=false
 own:wr.ownsRow base 154 14 v k xs
 ty:Typed wr w.heap.size 134
 lns:∀i:Nat,i<k→∃(bb cc:Nat→Nat) (sv:Value),(∀j:Nat,j<14→xs[i*14+j]? =(lcells (tl s i) bb cc sv)[j]?)∧LineAt wr (tl s i) bb cc∧StepsAt wr (tl s i) sv∧∀t:Nat,t<5→base≤bb t∧some (bb t)≠v.ownBlock
 bel:Below w.heap.size w wr
 hR:w.heap.size<base
 hb:b<base
 h2:2<base
 hbase:base≤wr.heap.size
theorem RInv.below {w wr G:World}{d b k:Nat}{s:ByteArray}{v:Value}{e:List Value} (h:RInv w wr d b s k v e) (q:Below wr.heap.size wr G):RInv w G d b s k v e:=by
 have h1:=h.hR;have Z:=h.hbase;refine⟨h.strs.later q,h.tabs.later q,cell_later q h.c0,cell_later q h.c1,cell_later q h.c2,(q.frozen (by simp;omega)).trans h.f0,(q.frozen (by simp;omega)).trans h.f1,(q.frozen (by simp;omega)).trans h.f2,dV h.own q,h.ty.later q,?_,h.bel.trans (q.mono (by omega)),h.hR,h.hb,h.h2,Nat.le_trans h.hbase q.size⟩
 intro i hi;obtain⟨Y,I,O,J,V,Q,U⟩:=h.lns i hi;exact⟨Y,I,O,J,V.later q,TRow.later Q q,U⟩
theorem RInv.app {w wr J:World}{G b k g ad H0:Nat}{s:ByteArray}{v sv:Value}{Y:List Value}{O cc:Nat→Nat} (h:RInv w wr G b s k v Y) (U:wr.grownBy J v.ownBlock)
 (ho:J.ownsRow G 154 14 (.slice (some ⟨g,0,none⟩) (k+1) ad) (k+1) (Y++lcells (tl s k) O cc sv)) (ac:v.ownBlock=some g∨g=wr.heap.size)
 (hv:∀g0,v.ownBlock=some g0→g0<H0) (am:G≤H0) (hn:LineAt wr (tl s k) O cc) (ao:StepsAt wr (tl s k) sv) (Z:∀t:Nat,t<5→H0≤O t):RInv w J G b s (k+1) (.slice (some ⟨g,0,none⟩) (k+1) ad) (Y++lcells (tl s k) O cc sv):=by
 have q:Below G wr J:=(Below.refl _ _).grown U h.hbase (fun k' e=>(h.own.lt k' e).1)
 have h1:=h.hR;have h3:=h.hbase;have h4:=h.h2;have h5:=h.hb;have h6:=h.bel.size;have cell:∀(a j:Nat) (u:Value),a<G→wr.cell? ⟨a,j,none⟩=some u→J.cell? ⟨a,j,none⟩=some u:=fun a j u ha hc=>(q.cell (p:=⟨a,j,none⟩) ha).trans hc
 have V:∀(a j:Nat),a<G→J.frozen? ⟨a,j,none⟩=wr.frozen? ⟨a,j,none⟩:=fun a j ha=>q.frozen (p:=⟨a,j,none⟩) ha
 have Q:∀(x:Nat) (l g':Int) (L:List ByteArray),some x≠v.ownBlock→PartsAt wr x l g' L→PartsAt J x l g' L:=fun x l g' L hx hp j I=>
  ⟨U.cell (hp j I).1 hx,U.cell (hp j I).2.1 hx,U.cell (hp j I).2.2 hx⟩
 have aA:Y.length=k*14:=h.own.1;have ae:∀(z:ByteArray) (u:Value),StepsAt wr z u→StepsAt J z u:=fun z u hz=>TRow.grown hz h.own U (by decide)
 refine⟨fun j I=>cell _ _ _ h.hb (h.strs j I),fun j I=>⟨cell _ _ _ (by omega) (h.tabs j I).1,cell _ _ _ (by omega) (h.tabs j I).2⟩,cell _ _ _ h1 h.c0,cell _ _ _ h1 h.c1,cell _ _ _ h1 h.c2,
  (V _ _ h1).trans h.f0,(V _ _ h1).trans h.f1,(V _ _ h1).trans h.f2,ho,h.ty.below h1 q,?_,h.bel.trans (q.mono (by omega)),h.hR,h.hb,h.h2,Nat.le_trans h.hbase U.size⟩
 intro i hi
 by_cases e:i=k
 ·subst e
  have au:∀t:Nat,t<5→some (O t)≠v.ownBlock:=fun t d e=>by
   have a:=hv (O t) e.symm;have b:=Z t d;omega
  refine⟨O,cc,sv,fun j I=>?_,fun t d=>⟨(hn t d).1,Q _ _ _ _ (au t d) (hn t d).2⟩,ae _ _ ao,fun t d=>⟨Nat.le_trans am (Z t d),?_⟩⟩
  ·rw[List.getElem?_append_right (by omega)]
   have:i*14+j-Y.length=j:=by omega
   rw[this]
  ·have aq:=(hn t d).2.lt
   rcases ac with a|a
   ·have:=hv g a;have:=Z t d;intro e;simp[Value.ownBlock] at e;omega
   ·intro e;simp[Value.ownBlock] at e;omega
 ·have ar:i<k:=by omega
  obtain⟨b1,c1,aw,p1,p2,p4,p3⟩:=h.lns i ar;refine⟨b1,c1,aw,fun j I=>?_,fun t d=>⟨(p2 t d).1,Q _ _ _ _ (p3 t d).2 (p2 t d).2⟩,ae _ _ p4,fun t d=>⟨(p3 t d).1,?_⟩⟩
  ·rw[List.getElem?_append_left (by omega)];exact p1 j I
  ·have aq:=(p2 t d).2.lt
   rcases ac with a|a
   ·have:=(p3 t d).2;rw[a] at this;intro e;simp[Value.ownBlock] at e;exact this (by rw[e])
   ·intro e;simp[Value.ownBlock] at e;omega
theorem RInv.app2 {w e U:World}{o1 o2:Obj}{d b k g I H0:Nat}{s:ByteArray}{v Q:Value}{O:List Value}{G J:Nat→Nat} (h:RInv w e d b s k v O) (hg:((e.alloc o1).alloc o2).grownBy U v.ownBlock)
 (ho:U.ownsRow d 154 14 (.slice (some ⟨g,0,none⟩) (k+1) I) (k+1) (O++lcells (tl s k) G J Q)) (V:v.ownBlock=some g∨g=e.heap.size+1+1)
 (hv:∀Y,v.ownBlock=some Y→Y<H0) (aa:d≤H0) (hn:LineAt e (tl s k) G J) (ab:StepsAt e (tl s k) Q) (Z:∀t:Nat,t<5→H0≤G t):RInv w U d b s (k+1) (.slice (some ⟨g,0,none⟩) (k+1) I) (O++lcells (tl s k) G J Q):=
 ((h.below (dx e o1)).below (dx _ o2)).app hg ho (by simpa using V) hv aa ((hn.later (dx e o1)).later (dx _ o2)) (TRow.later (TRow.later ab (dx e o1)) (dx _ o2)) Z
theorem RInv.lines {w wr:World}{d b g e:Nat}{s:ByteArray}{J:List Value} (h:RInv w wr d b s (tn s) (.slice (some ⟨g,0,none⟩) (tn s) e) J):PLinesAt wr g s∧d≤g:=by
 constructor
 ·intro i hi;obtain⟨Y,G,O,I,U,Q,_⟩:=h.lns i hi;refine⟨Y,G,O,fun j V=>?_,U,Q⟩
  rw[h.own.cellAt (i*14+j) (by omega)];exact I j V
 ·exact (h.own.lt g rfl).1
theorem ox {w:World}{R g:Nat}{s:ByteArray}{Y V u2:Value} (ty:Typed w R 134) (_h:PLinesAt w g s) (hg:R<g) (hp:∀i:Nat,i<tn s→∃(d O:Nat→Nat) (J:Value),(∀j:Nat,j<14→w.cell? ⟨g,i*14+j,none⟩=(lcells (tl s i) d O J)[j]?)∧LineAt w (tl s i) d O∧StepsAt w (tl s i) J∧∀t:Nat,t<5→R<d t):
 PLinesAt (((w.setCell ⟨R,0,none⟩ Y).setCell ⟨R,1,none⟩ V).setCell ⟨R,2,none⟩ u2) g s:=by
 have far:∀(x o:Nat),R<x→(((w.setCell ⟨R,0,none⟩ Y).setCell ⟨R,1,none⟩ V).setCell ⟨R,2,none⟩ u2).cell? ⟨x,o,none⟩=w.cell? ⟨x,o,none⟩:=by
  intro x o hx;have I:∀j:Nat,(⟨R,j,none⟩:Addr)≠⟨x,o,none⟩:=fun j e=>by cases e;omega
  rw[World.cell?_setCell_other _ _ _ _ (I _),World.cell?_setCell_other _ _ _ _ (I _),World.cell?_setCell_other _ _ _ _ (I _)]
 intro i hi;obtain⟨d,O,J,p1,Z,p4,Q⟩:=hp i hi;refine⟨d,O,J,fun j U=>by rw[far _ _ hg];exact p1 j U,fun t G=>⟨(Z t G).1,fun j U=>?_⟩,TRow.set (TRow.set (TRow.set p4 ty (by decide) _ _) (ty.setCell _ _ _) (by decide) _ _) ((ty.setCell _ _ _).setCell _ _ _) (by decide) _ _⟩
 obtain⟨q0,q1,q2⟩:=(Z t G).2 j U;rw[far _ _ (Q t G),far _ _ (Q t G),far _ _ (Q t G)];exact⟨q0,q1,q2⟩
theorem fz {B:Nat}{a w:World}{R:Nat} (h:Below B a w) (hR:B≤R) {d G e:Value}:Below B a (((w.setCell ⟨R,0,none⟩ d).setCell ⟨R,1,none⟩ G).setCell ⟨R,2,none⟩ e):=((h.setCell hR _).setCell hR _).setCell hR _
theorem qE:(Tryz.prog.info? 154).map (fun i=>(i.zero,i.size,i.bytes))=some (some (.agg #[.bool false,.slice none 0 0,.bool false,.slice none 0 0,.bool false,.slice none 0 0,.bool false,.slice none 0 0,.bool false,.slice none 0 0,.bool false,.int .u8 0,.int .i64 0,.slice none 0 0]),14,200):=by kernel_rfl
def ReadR (s:ByteArray) (w':World) (e:Ending):Prop:=∃(a r:Int) (ad:Option Addr) (n c:Nat),e=.returned (.agg #[.slice ad n c,.int .i64 a,.int .i64 r])∧ChkR s a r∧(r=0→∃g,ad=some ⟨g,0,none⟩∧n=tn s∧n≤c∧PLinesAt w' g s)
set_option maxRecDepth 10000 in
set_option maxHeartbeats 0 in
theorem gA (s:ByteArray) (w:World) (hs:s.size≤maxLen) (hT:TabLH w):
 Calls Tryz.prog 84 #[.string s] w fun e w'=>ReadR s w' e∧Below w.heap.size w w':=by
 unfold maxLen at hs;have bI:0<w.heap.size∧1<w.heap.size:=⟨World.block_lt_of_cell? _ _ (hT 0 (by decide)).1,World.block_lt_of_cell? _ _ (hT 0 (by decide)).2⟩
 have aW:Hid (∀o,TabLH (w.alloc o)):=fun o=>hT.later (dx _ _)
 clear hT
 by_cases a5:300<s.size
 ·have K:Hid (ChkR s 0 1):=ChkR.long a5
  go_enter Tryz.func84,Tryz.ntmps84
  go_wp2_with fail;exact bodyPost_ret (v:=.agg #[.slice none 0 0,.int .i64 0,.int .i64 1]) (by simp[results,Tryz.results84,go_sem]) rfl ⟨⟨0,1,none,0,0,rfl,K.out,fun h=>by cases h⟩,dx _ _⟩
 have Q:s.size≤300:=by omega
 clear hs;obtain⟨i0,hi,aU,aS,aR⟩:=info_parts qE
 go_enter Tryz.func84,Tryz.ntmps84
 go_wp2_with fail;refine (jt _ _ Q).mono ?_;rintro e w1 ⟨⟨b,Y,rfl,br,bw,hS⟩,hb⟩;have bc:=Txt.pcs_len 10 s;have hn:=iT s;have he:=iX (s:=tl s (tn s));have aV:Hid (∀o,TabLH (w1.alloc o)):=fun o=>((aW.out _).later hb).later (dx _ _)
 have B1:Hid (Below w.heap.size w w1):=(dx w _).trans (hb.mono (by simp))
 have bH:w.heap.size<b:=by simp at br;omega
 have bu:b<w1.heap.size:=World.block_lt_of_cell? _ _ (hS 0 (Txt.pcs_ne _ _));have au:w.heap.size<w1.heap.size:=by omega
 have H0:RInv w (w1.alloc (.cells #[] 154)) w1.heap.size b s 0 (.slice (some ⟨w1.heap.size,0,none⟩) 0 0) []:=by
  refine⟨hS.later (dx _ _),aV.out _,cell_later (dx _ _) (cell_later hb (by simp[go_sem])),cell_later (dx _ _) (cell_later hb (by simp[go_sem])),cell_later (dx _ _) (cell_later hb (by simp[go_sem])),?_,?_,?_,?_,((Typed.new _ _ _).later hb).later (dx _ _),fun i h=>by omega,B1.out.alloc (Nat.le_of_lt au) _,au,bu,by omega,by simp⟩
  ·rw[(dx w1 _).frozen (p:=⟨w.heap.size,0,none⟩) (by simpa using au),hb.frozen (p:=⟨w.heap.size,0,none⟩) (by simp)];simp[go_sem]
  ·rw[(dx w1 _).frozen (p:=⟨w.heap.size,1,none⟩) (by simpa using au),hb.frozen (p:=⟨w.heap.size,1,none⟩) (by simp)];simp[go_sem]
  ·rw[(dx w1 _).frozen (p:=⟨w.heap.size,2,none⟩) (by simpa using au),hb.frozen (p:=⟨w.heap.size,2,none⟩) (by simp)];simp[go_sem]
  ·exact⟨rfl,Or.inr ⟨w1.heap.size,0,#[],rfl,Nat.le_refl _,(MapKept.heap_alloc w1 _).1,Nat.le_refl _,Nat.zero_le _,rfl,rfl⟩⟩
 have HN:=Hq hn;have bG:tn s≤301:=by omega
 obtain⟨hc,hf⟩:=dU hb;clear hb hS aV aW hn bc
 by_cases z:(tl s (tn s)).size=0
 ·have Z:=Hq z;rw[decide_eq_true z] at he;have hM:Hid (tn s+(if (tl s (tn s)).size=0 then 0 else 1)=tn s):=by unfold Hid;rw[if_pos z,Nat.add_zero]
  clear z
  by_cases h4:4<tn s
  ·have K:Hid (ChkR s 0 2):=ChkR.many Q (by rw[hM.out];exact h4)
   clear H0;go_wp2_with fail;exact bodyPost_ret (v:=.agg #[.slice none 0 0,.int .i64 0,.int .i64 2]) (by simp[results,Tryz.results84,go_sem,hc]) rfl ⟨⟨0,2,none,0,0,rfl,K.out,fun h=>by cases h⟩,fz B1.out (Nat.le_refl _)⟩
  have ar:Hid (tn s+(if (tl s (tn s)).size=0 then 0 else 1)≤4):=by unfold Hid;rw[hM.out];omega
  clear hc hf;go_wp2_with fail
  go_loopw [6,7] (fun v x wr=>∃(k g c:Nat) (xs:List Value),k≤tn s∧x=.int .i64 k∧v=.slice (some ⟨g,0,none⟩) k c∧k≤c∧(∀j:Nat,j<k→lineB (tl s j)=true)∧RInv w wr w1.heap.size b s k (.slice (some ⟨g,0,none⟩) k c) xs) (fun _ x _=>tn s-(intOf x).toNat)
  case atStart=>exact⟨0,_,_,_,Nat.zero_le _,rfl,rfl,Nat.le_refl _,fun j h=>by omega,H0⟩
  case round=>
   clear H0;obtain⟨k,g,c,xs,hk,rfl,rfl,aT,ab,G⟩:=hrel;have HA:=Hq ab;clear ab
   by_cases aJ:k<tn s
   ·have aa:k<(Txt.pcs 10 s).length:=by have:=HN.out;omega
    have ai:wr.cell? ⟨b,k,none⟩=some (.string (tl s k)):=by rw[←gb aa];exact G.strs k aa
    have zk:Hid ((tl s k).size≤300):=fG Q k aa;have b1:(0:Int)≤(k:Int):=by omega
    have b2:(k:Int)<(tn s:Int):=by omega
    go_wp2_with fail;refine (gQ _ _ zk.out G.tabs).mono ?_;rintro e O ⟨hR,am⟩;have d:=G.below am;have ag:∀g0,(Value.slice (some ⟨g,0,none⟩) k c).ownBlock=some g0→g0<wr.heap.size:=fun g0 e=>(G.own.lt g0 e).2
    have HV:=Hq ag;have aN:Hid (w1.heap.size≤wr.heap.size):=G.hbase;clear G am ai ag
    rcases hR with ⟨kk,V,cc,sv,rfl,hP,I⟩|⟨kk,rfl⟩
    ·have KK:=Hq kk
     obtain⟨ao,ae,aK⟩:∃ad Y,sv=.slice ad (stps (tl s k)).length Y:=by
      obtain⟨ad,Y,e,_⟩:=(RowAt.of_own I).form;exact⟨ad,Y,e⟩
     subst aK;have aG:Hid (StepsAt O (tl s k) (.slice ao (stps (tl s k)).length ae)):=TRow.of_own I;clear I;have HP:Hid (LineAt O (tl s k) V cc∧∀t:Nat,t<5→wr.heap.size≤V t):=⟨fun t ht=>(hP t ht).2,fun t ht=>(hP t ht).1⟩
     have aF:Hid (w1.heap.size≤O.heap.size):=d.hbase;have aq:Hid (O.ownsRow w1.heap.size 154 14 (.slice (some ⟨g,0,none⟩) k c) k xs):=d.own;have bp:k≤5:=by omega
     clear kk hP;go_wp2_with (at_builtin;refine wpList_append_lies _ rfl (.tmp 48) (.tmp 50) 132 rfl w1.heap.size 154 i0 (.agg #[.bool false,.slice none 0 0,.bool false,.slice none 0 0,.bool false,.slice none 0 0,.bool false,.slice none 0 0,.bool false,.slice none 0 0,.bool false,.int .u8 0,.int .i64 0,.slice none 0 0]) 14 200 Tryz.underlying132 hi aU aS aR rfl (by decide) _ _ _ rfl ((aq.out.alloc _).alloc _) ⟨O.heap.size+1,0,none⟩ 1 1 (lcells (tl s k) V cc (.slice ao (stps (tl s k)).length ae)) rfl rfl ?c1 ?c2 (by decide) ?c3 ?c4 ?c5 _ rfl ?_)
     case c1=>
      intro j u hj
      have a8:j<14:=by
       rcases Nat.lt_or_ge j 14 with h|h
       ·exact h
       ·rw[List.getElem?_eq_none (by simpa [lcells] using h)] at hj;cases hj
      have aH:j=0∨j=1∨j=2∨j=3∨j=4∨j=5∨j=6∨j=7∨j=8∨j=9∨j=10∨j=11∨j=12∨j=13:=by omega
      rcases aH with rfl|rfl|rfl|rfl|rfl|rfl|rfl|rfl|rfl|rfl|rfl|rfl|rfl|rfl<;>(simp[lcells] at hj;subst hj;simp[Addr.add,go_sem])
     case c2=>intro u hu;simp[lcells] at hu;rcases hu with rfl|rfl|rfl|rfl|rfl|rfl|rfl|rfl|rfl|rfl|rfl|rfl|rfl|rfl<;>rfl
     case c3=>unfold maxLen;omega
     case c4=>omega
     case c5=>have:=aF.out;simp;omega
     ·intro g' c' w3 J U al av;have aI:=d.app2 U J al HV.out aN.out HP.out.1 aG.out HP.out.2
      have aM:k+1≤c':=by
       rcases J.2 with ⟨h,_⟩|⟨g2,a7,cur,h,_,_,h2,_⟩
       ·cases h
       ·cases h;exact h2
      clear J U al d aq av;go_wp2_with fail;go_roundw
      case rel=>
       refine⟨k+1,g',c',_,by omega,by go_num,rfl,aM,fun j h=>?_,aI⟩
       by_cases q:j=k
       ·subst q;exact KK.out
       ·exact HA.out j (by omega)
      case measure=>simp[intOf];omega
    ·have K:Hid (ChkR s (k+1) 3):=ChkR.line Q ar.out k aJ kk HA.out;have BB:Hid (Below w.heap.size w O):=d.bel;have r0:=d.c0;have r1:=d.c1;have r2:=d.c2;have s0:=d.f0;have s1:=d.f1;have s2:=d.f2;have z4:w.heap.size<O.heap.size:=by have:=d.hR;have:=d.hbase;omega
     clear kk d;go_wp2_with fail;refine bodyPost_ret (v:=.agg #[.slice none 0 0,.int .i64 ((k:Int)+1),.int .i64 3]) (by simp[results,Tryz.results84,go_sem,r0,r1,r2,z4]) rfl ⟨⟨_,3,none,0,0,rfl,K.out,fun h=>by cases h⟩,?_⟩
     repeat (first |exact BB.out|refine Below.setCell ?_ (by simp) _|refine Below.alloc ?_ (by first |(simp;done)|(simp;omega)) _)
   ·obtain rfl:k=tn s:=by omega
    have BB:Hid (Below w.heap.size w wr):=G.bel;have r0:=G.c0;have r1:=G.c1;have r2:=G.c2;have s0:=G.f0;have s1:=G.f1;have s2:=G.f2;have z4:w.heap.size<wr.heap.size:=by have:=G.hR;have:=G.hbase;omega
    have K:Hid (ChkR s 0 0):=ChkR.ok Q ar.out HA.out Z.out;have HL:Hid (PLinesAt wr g s):=G.lines.1;have bf:Hid (w.heap.size<g):=by have:=G.lines.2;have:=G.hR;unfold Hid;omega
    have bj:Hid (Typed wr w.heap.size 134):=G.ty
    have bk:Hid (∀i:Nat,i<tn s→∃(V cc:Nat→Nat) (sv:Value),(∀j:Nat,j<14→wr.cell? ⟨g,i*14+j,none⟩=(lcells (tl s i) V cc sv)[j]?)∧LineAt wr (tl s i) V cc∧StepsAt wr (tl s i) sv∧∀t:Nat,t<5→w.heap.size<V t):=by
     intro i bo;obtain⟨V,cc,sv,p1,p2,p4,p3⟩:=G.lns i bo;refine⟨V,cc,sv,fun j hj=>?_,p2,p4,fun t ht=>by have:=(p3 t ht).1;have:=G.hR;omega⟩
     rw[G.own.cellAt (i*14+j) (by omega)];exact p1 j hj
    clear G;go_wp2_with fail;exact bodyPost_ret (v:=.agg #[.slice (some ⟨g,0,none⟩) (tn s) c,.int .i64 0,.int .i64 0]) (by simp[results,Tryz.results84,go_sem,r0,r1,r2]) rfl ⟨⟨0,0,_,_,_,rfl,K.out,fun _=>⟨g,rfl,rfl,aT,ox bj.out HL.out bf.out bk.out⟩⟩,fz BB.out (Nat.le_refl _)⟩
 ·have Z:=Hq z;rw[decide_eq_false z] at he;have hM:Hid (tn s+(if (tl s (tn s)).size=0 then 0 else 1)=tn s+1):=by unfold Hid;rw[if_neg z]
  clear z
  by_cases h4:4<tn s+1
  ·have K:Hid (ChkR s 0 2):=ChkR.many Q (by rw[hM.out];exact h4)
   clear H0;go_wp2_with fail;exact bodyPost_ret (v:=.agg #[.slice none 0 0,.int .i64 0,.int .i64 2]) (by simp[results,Tryz.results84,go_sem,hc]) rfl ⟨⟨0,2,none,0,0,rfl,K.out,fun h=>by cases h⟩,fz B1.out (Nat.le_refl _)⟩
  have ar:Hid (tn s+(if (tl s (tn s)).size=0 then 0 else 1)≤4):=by unfold Hid;rw[hM.out];omega
  clear hc hf;go_wp2_with fail
  go_loopw [6,7] (fun v x wr=>∃(k g c:Nat) (xs:List Value),k≤tn s∧x=.int .i64 k∧v=.slice (some ⟨g,0,none⟩) k c∧k≤c∧(∀j:Nat,j<k→lineB (tl s j)=true)∧RInv w wr w1.heap.size b s k (.slice (some ⟨g,0,none⟩) k c) xs) (fun _ x _=>tn s-(intOf x).toNat)
  case atStart=>exact⟨0,_,_,_,Nat.zero_le _,rfl,rfl,Nat.le_refl _,fun j h=>by omega,H0⟩
  case round=>
   clear H0;obtain⟨k,g,c,xs,hk,rfl,rfl,aT,ab,G⟩:=hrel;have HA:=Hq ab;clear ab
   by_cases aJ:k<tn s
   ·have aa:k<(Txt.pcs 10 s).length:=by have:=HN.out;omega
    have ai:wr.cell? ⟨b,k,none⟩=some (.string (tl s k)):=by rw[←gb aa];exact G.strs k aa
    have zk:Hid ((tl s k).size≤300):=fG Q k aa;have b1:(0:Int)≤(k:Int):=by omega
    have b2:(k:Int)<(tn s:Int):=by omega
    go_wp2_with fail;refine (gQ _ _ zk.out G.tabs).mono ?_;rintro e O ⟨hR,am⟩;have d:=G.below am;have ag:∀g0,(Value.slice (some ⟨g,0,none⟩) k c).ownBlock=some g0→g0<wr.heap.size:=fun g0 e=>(G.own.lt g0 e).2
    have HV:=Hq ag;have aN:Hid (w1.heap.size≤wr.heap.size):=G.hbase;clear G am ai ag
    rcases hR with ⟨kk,V,cc,sv,rfl,hP,I⟩|⟨kk,rfl⟩
    ·have KK:=Hq kk
     obtain⟨ao,ae,aK⟩:∃ad Y,sv=.slice ad (stps (tl s k)).length Y:=by
      obtain⟨ad,Y,e,_⟩:=(RowAt.of_own I).form;exact⟨ad,Y,e⟩
     subst aK;have aG:Hid (StepsAt O (tl s k) (.slice ao (stps (tl s k)).length ae)):=TRow.of_own I;clear I;have HP:Hid (LineAt O (tl s k) V cc∧∀t:Nat,t<5→wr.heap.size≤V t):=⟨fun t ht=>(hP t ht).2,fun t ht=>(hP t ht).1⟩
     have aF:Hid (w1.heap.size≤O.heap.size):=d.hbase;have aq:Hid (O.ownsRow w1.heap.size 154 14 (.slice (some ⟨g,0,none⟩) k c) k xs):=d.own;have bp:k≤5:=by omega
     clear kk hP;go_wp2_with (at_builtin;refine wpList_append_lies _ rfl (.tmp 48) (.tmp 50) 132 rfl w1.heap.size 154 i0 (.agg #[.bool false,.slice none 0 0,.bool false,.slice none 0 0,.bool false,.slice none 0 0,.bool false,.slice none 0 0,.bool false,.slice none 0 0,.bool false,.int .u8 0,.int .i64 0,.slice none 0 0]) 14 200 Tryz.underlying132 hi aU aS aR rfl (by decide) _ _ _ rfl ((aq.out.alloc _).alloc _) ⟨O.heap.size+1,0,none⟩ 1 1 (lcells (tl s k) V cc (.slice ao (stps (tl s k)).length ae)) rfl rfl ?c1 ?c2 (by decide) ?c3 ?c4 ?c5 _ rfl ?_)
     case c1=>
      intro j u hj
      have a8:j<14:=by
       rcases Nat.lt_or_ge j 14 with h|h
       ·exact h
       ·rw[List.getElem?_eq_none (by simpa [lcells] using h)] at hj;cases hj
      have aH:j=0∨j=1∨j=2∨j=3∨j=4∨j=5∨j=6∨j=7∨j=8∨j=9∨j=10∨j=11∨j=12∨j=13:=by omega
      rcases aH with rfl|rfl|rfl|rfl|rfl|rfl|rfl|rfl|rfl|rfl|rfl|rfl|rfl|rfl<;>(simp[lcells] at hj;subst hj;simp[Addr.add,go_sem])
     case c2=>intro u hu;simp[lcells] at hu;rcases hu with rfl|rfl|rfl|rfl|rfl|rfl|rfl|rfl|rfl|rfl|rfl|rfl|rfl|rfl<;>rfl
     case c3=>unfold maxLen;omega
     case c4=>omega
     case c5=>have:=aF.out;simp;omega
     ·intro g' c' w3 J U al av;have aI:=d.app2 U J al HV.out aN.out HP.out.1 aG.out HP.out.2
      have aM:k+1≤c':=by
       rcases J.2 with ⟨h,_⟩|⟨g2,a7,cur,h,_,_,h2,_⟩
       ·cases h
       ·cases h;exact h2
      clear J U al d aq av;go_wp2_with fail;go_roundw
      case rel=>
       refine⟨k+1,g',c',_,by omega,by go_num,rfl,aM,fun j h=>?_,aI⟩
       by_cases q:j=k
       ·subst q;exact KK.out
       ·exact HA.out j (by omega)
      case measure=>simp[intOf];omega
    ·have K:Hid (ChkR s (k+1) 3):=ChkR.line Q ar.out k aJ kk HA.out;have BB:Hid (Below w.heap.size w O):=d.bel;have r0:=d.c0;have r1:=d.c1;have r2:=d.c2;have s0:=d.f0;have s1:=d.f1;have s2:=d.f2;have z4:w.heap.size<O.heap.size:=by have:=d.hR;have:=d.hbase;omega
     clear kk d;go_wp2_with fail;refine bodyPost_ret (v:=.agg #[.slice none 0 0,.int .i64 ((k:Int)+1),.int .i64 3]) (by simp[results,Tryz.results84,go_sem,r0,r1,r2,z4]) rfl ⟨⟨_,3,none,0,0,rfl,K.out,fun h=>by cases h⟩,?_⟩
     repeat (first |exact BB.out|refine Below.setCell ?_ (by simp) _|refine Below.alloc ?_ (by first |(simp;done)|(simp;omega)) _)
   ·obtain rfl:k=tn s:=by omega
    have BB:Hid (Below w.heap.size w wr):=G.bel;have r0:=G.c0;have r1:=G.c1;have r2:=G.c2;have s0:=G.f0;have s1:=G.f1;have s2:=G.f2;have z4:w.heap.size<wr.heap.size:=by have:=G.hR;have:=G.hbase;omega
    have K:Hid (ChkR s (tn s+1) 3):=ChkR.last Q ar.out HA.out Z.out;clear G;go_wp2_with fail;exact bodyPost_ret (v:=.agg #[.slice none 0 0,.int .i64 ((tn s:Int)+1),.int .i64 3]) (by simp[results,Tryz.results84,go_sem,r0,r1,r2]) rfl ⟨⟨_,3,none,0,0,rfl,K.out,fun h=>by cases h⟩,fz BB.out (Nat.le_refl _)⟩
end Go.Proofs.YtdajolpoiffimabGreatDoor

namespace Go.Proofs.YtdajolpoiffimabGreatDoor
open Go.RowKit
abbrev pstV (s:Px.St) (sl en:Value):Value:=.agg #[.string s.tab,.int .i64 s.clock,.int .i64 s.next,sl,en]
abbrev pstO (s:Px.St) (sl en:Value):Obj:=.cells #[.string s.tab,.int .i64 s.clock,.int .i64 s.next,sl,en] 77
structure PAt (w:World) (s:Px.St) (sl en:Value):Prop where
 sl:TRow w 143 sl s.slots.length (s.slots.flatMap psC)
 en:TRow w 85 en s.ends.length (s.ends.flatMap enC)
theorem PAt.later {w d:World}{s:Px.St}{sl en:Value} (h:PAt w s sl en) (hb:Below w.heap.size w d):PAt d s sl en:=⟨h.sl.later hb,h.en.later hb⟩
theorem PAt.set {w:World}{s:Px.St}{sl en:Value} (h:PAt w s sl en) {g:Nat}{e:TypeId} (d:Typed w g e) (h1:143≠e) (h2:85≠e) (o:Nat) (u:Value):PAt (w.setCell ⟨g,o,none⟩ u) s sl en:=⟨h.sl.set d h1 o u,h.en.set d h2 o u⟩
structure PIn (W:World) (q:Nat) (s:Px.St) (sl en:Value):Prop where
 c0:W.cell? ⟨q,0,none⟩=some (.string s.tab)
 c1:W.cell? ⟨q,1,none⟩=some (.int .i64 s.clock)
 c2:W.cell? ⟨q,2,none⟩=some (.int .i64 s.next)
 c3:W.cell? ⟨q,3,none⟩=some sl
 c4:W.cell? ⟨q,4,none⟩=some en
theorem PIn.new (w:World) (s:Px.St) (sl en:Value):PIn (w.alloc (pstO s sl en)) w.heap.size s sl en:=⟨by simp[go_sem],by simp[go_sem],by simp[go_sem],by simp[go_sem],by simp[go_sem]⟩
theorem PIn.later {W W':World}{q:Nat}{s:Px.St}{sl en:Value} (h:PIn W q s sl en) (hb:Below W.heap.size W W'):PIn W' q s sl en:=
 ⟨cell_later hb h.c0,cell_later hb h.c1,cell_later hb h.c2,cell_later hb h.c3,cell_later hb h.c4⟩
theorem PIn.below {W W':World}{q n:Nat}{s:Px.St}{sl en:Value} (h:PIn W q s sl en) (d:q<n) (hb:Below n W W'):PIn W' q s sl en:=by
 have c:∀j u,W.cell? ⟨q,j,none⟩=some u→W'.cell? ⟨q,j,none⟩=some u:=fun j u h=>(hb.cell (p:=⟨q,j,none⟩) d).trans h
 exact⟨c _ _ h.c0,c _ _ h.c1,c _ _ h.c2,c _ _ h.c3,c _ _ h.c4⟩
def ZCell (W:World) (q n:Nat):Prop:=∀j:Nat,j<n→(∃u,W.cell? ⟨q,j,none⟩=some u)∧W.frozen? ⟨q,j,none⟩=false
theorem ZCell.new (w:World) (d:Array Value) (t:TypeId):ZCell (w.alloc (.cells d t)) w.heap.size d.size:=by
 intro j e;have hb:(w.alloc (.cells d t)).heap[w.heap.size]? =some (.cells d t (0,0)):=by show (w.heap.push (.cells d t))[w.heap.size]? =_;simp
 refine⟨⟨d[j],?_⟩,?_⟩
 ·rw[cell_of_row _ _ j d t (0,0) hb];simp[e]
 ·unfold World.frozen?;rw[hb];simp
theorem ZCell.later {W W':World}{q n:Nat} (h:ZCell W q n) (w:q<W.heap.size) (hb:Below W.heap.size W W'):ZCell W' q n:=
 fun j d=>⟨(h j d).1.elim fun u e=>⟨u,cell_later hb e⟩,(hb.frozen (p:=⟨q,j,none⟩) w).trans (h j d).2⟩
def FindR (l:List Px.Sl) (n:Int) (e:Ending):Prop:=
 (∃x,Px.find l n=some x∧e=.returned (.tuple #[psV x,.bool true]))∨(Px.find l n=none∧e=.returned (.tuple #[psV Px.sl0,.bool false]))
theorem qp {l:List Px.Sl}{n:Int}{k:Nat} (h:k<l.length) (e:(l[k].num==n)=true) (w:∀j (d:j<l.length),j<k→(l[j].num==n)=false):Px.find l n=some l[k]:=by
 unfold Px.find;rw[List.find?_eq_some_iff_getElem];exact⟨e,k,h,rfl,fun j d=>by rw[w j (by omega) d];rfl⟩
theorem nV {l:List Px.Sl}{n:Int} (e:∀j (d:j<l.length),(l[j].num==n)=false):Px.find l n=none:=by
 unfold Px.find;rw[List.find?_eq_none];intro x w;obtain⟨j,d,rfl⟩:=List.mem_iff_getElem.1 w;rw[e j d];simp
set_option maxRecDepth 10000 in
set_option maxHeartbeats 0 in
theorem fB (s:Px.St) (n:Int) (sl en:Value) (w:World) (hl:s.slots.length≤10000) (hS:PAt w s sl en):
 Calls Tryz.prog 91 #[pstV s sl en,.int .i64 n] w fun e w'=>FindR s.slots n e∧Below w.heap.size w w':=by
 obtain⟨O,I,rfl,aA⟩:=hS.sl.form;obtain⟨J,G,rfl,au⟩:=hS.en.form;have HR:=Hq hS.sl.1;clear hS;have Q:=(dx w (pstO s (.slice O s.slots.length I) (.slice J s.ends.length G))).alloc (by simp) (.cells #[.int .i64 0,.int .i64 0,.int .i64 0,.int .i64 0,.int .i64 0,.int .i64 0,.int .i64 0,.string {data:= #[]}] 143)
 have hI:=(PIn.new w s (.slice O s.slots.length I) (.slice J s.ends.length G)).later (dx _ (.cells #[.int .i64 0,.int .i64 0,.int .i64 0,.int .i64 0,.int .i64 0,.int .i64 0,.int .i64 0,.string {data:= #[]}] 143));have hZ:=ZCell.new (w.alloc (pstO s (.slice O s.slots.length I) (.slice J s.ends.length G))) #[.int .i64 0,.int .i64 0,.int .i64 0,.int .i64 0,.int .i64 0,.int .i64 0,.int .i64 0,.string {data:= #[]}] 143;have Z:ZCell ((w.alloc (pstO s (.slice O s.slots.length I) (.slice J s.ends.length G))).alloc (.cells #[.int .i64 0,.int .i64 0,.int .i64 0,.int .i64 0,.int .i64 0,.int .i64 0,.int .i64 0,.string {data:= #[]}] 143)) (w.heap.size+1) 8:=by simpa using hZ
 have hq:w.heap.size+1<((w.alloc (pstO s (.slice O s.slots.length I) (.slice J s.ends.length G))).alloc (.cells #[.int .i64 0,.int .i64 0,.int .i64 0,.int .i64 0,.int .i64 0,.int .i64 0,.int .i64 0,.string {data:= #[]}] 143)).heap.size:=by simp
 clear hZ
 go_enter Tryz.func91,Tryz.ntmps91
 go_upto_region 1 with fail;generalize (w.alloc (pstO s (.slice O s.slots.length I) (.slice J s.ends.length G))).alloc (.cells #[.int .i64 0,.int .i64 0,.int .i64 0,.int .i64 0,.int .i64 0,.int .i64 0,.int .i64 0,.string {data:= #[]}] 143)=W at *;have HB:=Hq Q;have aq:=Hq (HR.out.later Q);have i3:=hI.c3;have d:=Hq Z;clear hI Q HR Z;go_wp2_with fail
 go_loop [6] (fun i=>∃k:Nat,k≤s.slots.length∧i=.int .i64 k∧∀j (Y:j<s.slots.length),j<k→(s.slots[j].num==n)=false) (fun i=>s.slots.length-(intOf i).toNat)
 case atStart=>exact⟨0,Nat.zero_le _,rfl,fun j _ h=>by omega⟩
 case round=>
  obtain⟨k,hk,rfl,U⟩:=hrel;have HA:=Hq U;clear U
  by_cases aa:k<s.slots.length
  ·obtain⟨b,aS,aL,hv,_,hc⟩:=aq.out.some' (by omega)
   cases hv
   obtain⟨d0,d1,d2,d3,d4,d5,d6,d7⟩:=ej hc k aa;clear hc;have b1:(0:Int)≤(k:Int):=by omega
   have b2:(k:Int)<(s.slots.length:Int):=by omega
   cases he:(s.slots[k].num==n)
   ·have HE:=Hq he;have V:Hid (∃x,s.slots[k].num=x):=⟨_,rfl⟩;obtain⟨x,V⟩:=V.out;rw[V] at d0 he;clear d1 d2 d3 d4 d5 d6 d7 V;go_wp2_with fail
    go_round
    case rel=>
     refine⟨k+1,by omega,by go_num,fun j Y h=>?_⟩
     by_cases q:j=k
     ·subst q;exact HE.out
     ·exact HA.out j Y (by omega)
    case measure=>simp[intOf];omega
   ·have HF:Hid (Px.find s.slots n=some s.slots[k]):=qp aa he HA.out;obtain⟨⟨u0,r0⟩,f0⟩:=d.out 0 (by decide)
    obtain⟨⟨u1,r1⟩,f1⟩:=d.out 1 (by decide)
    obtain⟨⟨u2,r2⟩,f2⟩:=d.out 2 (by decide)
    obtain⟨⟨u3,r3⟩,f3⟩:=d.out 3 (by decide)
    obtain⟨⟨u4,r4⟩,f4⟩:=d.out 4 (by decide)
    obtain⟨⟨u5,r5⟩,f5⟩:=d.out 5 (by decide)
    obtain⟨⟨u6,r6⟩,f6⟩:=d.out 6 (by decide)
    obtain⟨⟨u7,r7⟩,f7⟩:=d.out 7 (by decide)
    generalize s.slots[k]=x at *;go_wp2_with fail;refine bodyPost_ret (v:=.tuple #[psV x,.bool true]) (by simp[results,Tryz.results91,go_sem,r0,r1,r2,r3,r4,r5,r6,r7]) rfl ⟨Or.inl ⟨x,HF.out,rfl⟩,?_⟩
    repeat (refine Below.setCell ?_ (by simp) _)
    exact HB.out
  ·have HF:Hid (Px.find s.slots n=none):=nV (fun j Y=>HA.out j Y (by omega))
   obtain⟨⟨u0,r0⟩,f0⟩:=d.out 0 (by decide)
   obtain⟨⟨u1,r1⟩,f1⟩:=d.out 1 (by decide)
   obtain⟨⟨u2,r2⟩,f2⟩:=d.out 2 (by decide)
   obtain⟨⟨u3,r3⟩,f3⟩:=d.out 3 (by decide)
   obtain⟨⟨u4,r4⟩,f4⟩:=d.out 4 (by decide)
   obtain⟨⟨u5,r5⟩,f5⟩:=d.out 5 (by decide)
   obtain⟨⟨u6,r6⟩,f6⟩:=d.out 6 (by decide)
   obtain⟨⟨u7,r7⟩,f7⟩:=d.out 7 (by decide)
   go_wp2_with fail;refine bodyPost_ret (v:=.tuple #[psV Px.sl0,.bool false]) (by simp[results,Tryz.results91,go_sem,r0,r1,r2,r3,r4,r5,r6,r7,Px.sl0];rfl) rfl ⟨Or.inr ⟨HF.out,rfl⟩,?_⟩
   repeat (refine Below.setCell ?_ (by simp) _)
   exact HB.out
set_option maxHeartbeats 0 in
theorem gx (s:Px.St) (sl en:Value) (w:World) (G:ChkR s.tab 0 0) (O:TabLH w) (hS:PAt w s sl en):
 Calls Tryz.prog 86 #[pstV s sl en] w fun e J=>(∃g c,e=.returned (.slice (some ⟨g,0,none⟩) (tn s.tab) c)∧tn s.tab≤c∧PLinesAt J g s.tab)∧Below w.heap.size w J:=by
 obtain⟨ad,ag,rfl,Z⟩:=hS.sl.form;obtain⟨ah,ac,rfl,Q⟩:=hS.en.form;have Y:=G.lines.1;have V:Hid (s.tab.size≤maxLen):=by unfold Hid maxLen;omega
 have HT:Hid (∀o,TabLH (w.alloc o)):=fun o=>O.later (dx _ _)
 have U:=Hq G;clear hS O G
 go_enter Tryz.func86,Tryz.ntmps86
 go_wp2_with fail;refine (gA _ _ V.out (HT.out _)).mono ?_;rintro e w1 ⟨⟨a,r,af,n',c,rfl,hK,hL⟩,hb⟩;obtain⟨rfl,rfl⟩:=U.out.uniq hK;obtain⟨g,rfl,rfl,I,d⟩:=hL rfl;have HL:Hid (∀o,PLinesAt (w1.alloc o) g s.tab):=fun o=>d.later (dx _ _)
 have B1:Hid (∀o,Below w.heap.size w (w1.alloc o)):=fun o=>((dx w _).trans (hb.mono (by simp))).alloc (by have:=hb.size;simp at this;omega) _
 clear hL hK d hb;go_wp2_with fail;go_ret;exact⟨⟨g,c,rfl,I,HL.out _⟩,B1.out _⟩
def PLine (w:World) (l:ByteArray) (v:Value):Prop:=∃(bb cc:Nat→Nat) (ads:Option Addr) (caps:Nat),v=lineV l bb cc (.slice ads (stps l).length caps)∧LineAt w l bb cc∧StepsAt w l (.slice ads (stps l).length caps)
theorem g9 {w:World}{R x o:Nat}{u v0 v1 V v3 U Z v6 v7 v8 Y O Q I J:Value} (G:R≠x) (h:w.cell? ⟨x,o,none⟩=some u):((((((((((((((w.setCell ⟨R,0,none⟩ v0).setCell ⟨R,1,none⟩ v1).setCell ⟨R,2,none⟩ V).setCell ⟨R,3,none⟩ v3).setCell ⟨R,4,none⟩ U).setCell ⟨R,5,none⟩ Z).setCell ⟨R,6,none⟩ v6).setCell ⟨R,7,none⟩ v7).setCell ⟨R,8,none⟩ v8).setCell ⟨R,9,none⟩ Y).setCell ⟨R,10,none⟩ O).setCell ⟨R,11,none⟩ Q).setCell ⟨R,12,none⟩ I).setCell ⟨R,13,none⟩ J).cell? ⟨x,o,none⟩=some u:=by
 have d:∀j:Nat,(⟨R,j,none⟩:Addr)≠⟨x,o,none⟩:=fun j e=>by cases e;exact G rfl
 rw[World.cell?_setCell_other _ _ _ _ (d _),World.cell?_setCell_other _ _ _ _ (d _),World.cell?_setCell_other _ _ _ _ (d _),World.cell?_setCell_other _ _ _ _ (d _),World.cell?_setCell_other _ _ _ _ (d _),World.cell?_setCell_other _ _ _ _ (d _),World.cell?_setCell_other _ _ _ _ (d _),World.cell?_setCell_other _ _ _ _ (d _),World.cell?_setCell_other _ _ _ _ (d _),World.cell?_setCell_other _ _ _ _ (d _),World.cell?_setCell_other _ _ _ _ (d _),World.cell?_setCell_other _ _ _ _ (d _),World.cell?_setCell_other _ _ _ _ (d _),World.cell?_setCell_other _ _ _ _ (d _)];exact h
theorem mT {w:World}{R:Nat}{l:ByteArray}{d v0 v1 Q v3 O V Y Z v8 U I J e G:Value} (ty:Typed w R 154) (h:StepsAt w l d):StepsAt ((((((((((((((w.setCell ⟨R,0,none⟩ v0).setCell ⟨R,1,none⟩ v1).setCell ⟨R,2,none⟩ Q).setCell ⟨R,3,none⟩ v3).setCell ⟨R,4,none⟩ O).setCell ⟨R,5,none⟩ V).setCell ⟨R,6,none⟩ Y).setCell ⟨R,7,none⟩ Z).setCell ⟨R,8,none⟩ v8).setCell ⟨R,9,none⟩ U).setCell ⟨R,10,none⟩ I).setCell ⟨R,11,none⟩ J).setCell ⟨R,12,none⟩ e).setCell ⟨R,13,none⟩ G) l d:=by
 have q:∀(w:World) (j:Nat) (u:Value),(Typed w R 154∧StepsAt w l d)→(Typed (w.setCell ⟨R,j,none⟩ u) R 154∧StepsAt (w.setCell ⟨R,j,none⟩ u) l d):=fun w j u h=>⟨h.1.setCell _ _ _,TRow.set h.2 h.1 (by decide) _ _⟩
 exact ((q _ _ _ (q _ _ _ (q _ _ _ (q _ _ _ (q _ _ _ (q _ _ _ (q _ _ _ (q _ _ _ (q _ _ _ (q _ _ _ (q _ _ _ (q _ _ _ (q _ _ _ (q _ _ _ ⟨ty,h⟩))))))))))))))).2
set_option maxRecDepth 10000 in
set_option maxHeartbeats 0 in
theorem gd (s:Px.St) (n:Int) (j:Nat) (sl en:Value) (w:World) (hn:n=(j:Int)+1) (hj:j<tn s.tab) (hC:ChkR s.tab 0 0) (hT:TabLH w) (hS:PAt w s sl en):
 Calls Tryz.prog 92 #[pstV s sl en,.int .i64 n] w fun e w'=>(∃v,e=.returned v∧PLine w' (tl s.tab j) v)∧Below w.heap.size w w':=by
 obtain⟨Q,G,rfl,aQ⟩:=hS.sl.form;obtain⟨O,I,rfl,aG⟩:=hS.en.form;subst hn;have HS:=Hq hS;have HC:=Hq hC;have h4:=gJ hC;have Y:=(dx w (pstO s (.slice Q s.slots.length G) (.slice O s.ends.length I))).alloc (by simp) (.cells #[.bool false,.slice none 0 0,.bool false,.slice none 0 0,.bool false,.slice none 0 0,.bool false,.slice none 0 0,.bool false,.slice none 0 0,.bool false,.int .u8 0,.int .i64 0,.slice none 0 0] 154)
 have hI:=(PIn.new w s (.slice Q s.slots.length G) (.slice O s.ends.length I)).later (dx _ (.cells #[.bool false,.slice none 0 0,.bool false,.slice none 0 0,.bool false,.slice none 0 0,.bool false,.slice none 0 0,.bool false,.slice none 0 0,.bool false,.int .u8 0,.int .i64 0,.slice none 0 0] 154));have hZ:=ZCell.new (w.alloc (pstO s (.slice Q s.slots.length G) (.slice O s.ends.length I))) #[.bool false,.slice none 0 0,.bool false,.slice none 0 0,.bool false,.slice none 0 0,.bool false,.slice none 0 0,.bool false,.slice none 0 0,.bool false,.int .u8 0,.int .i64 0,.slice none 0 0] 154;have al:((w.alloc (pstO s (.slice Q s.slots.length G) (.slice O s.ends.length I))).alloc (.cells #[.bool false,.slice none 0 0,.bool false,.slice none 0 0,.bool false,.slice none 0 0,.bool false,.slice none 0 0,.bool false,.slice none 0 0,.bool false,.int .u8 0,.int .i64 0,.slice none 0 0] 154)).cell? ⟨w.heap.size+1,0,none⟩=some (.bool false):=by simp[go_sem]
 have aj:=Typed.new (w.alloc (pstO s (.slice Q s.slots.length G) (.slice O s.ends.length I))) #[.bool false,.slice none 0 0,.bool false,.slice none 0 0,.bool false,.slice none 0 0,.bool false,.slice none 0 0,.bool false,.slice none 0 0,.bool false,.int .u8 0,.int .i64 0,.slice none 0 0] 154;have ai:ZCell ((w.alloc (pstO s (.slice Q s.slots.length G) (.slice O s.ends.length I))).alloc (.cells #[.bool false,.slice none 0 0,.bool false,.slice none 0 0,.bool false,.slice none 0 0,.bool false,.slice none 0 0,.bool false,.slice none 0 0,.bool false,.int .u8 0,.int .i64 0,.slice none 0 0] 154)) (w.heap.size+1) 14:=by simpa using hZ
 have ah:Typed ((w.alloc (pstO s (.slice Q s.slots.length G) (.slice O s.ends.length I))).alloc (.cells #[.bool false,.slice none 0 0,.bool false,.slice none 0 0,.bool false,.slice none 0 0,.bool false,.slice none 0 0,.bool false,.slice none 0 0,.bool false,.int .u8 0,.int .i64 0,.slice none 0 0] 154)) (w.heap.size+1) 154:=by simpa using aj
 have hq:w.heap.size+1<((w.alloc (pstO s (.slice Q s.slots.length G) (.slice O s.ends.length I))).alloc (.cells #[.bool false,.slice none 0 0,.bool false,.slice none 0 0,.bool false,.slice none 0 0,.bool false,.slice none 0 0,.bool false,.slice none 0 0,.bool false,.int .u8 0,.int .i64 0,.slice none 0 0] 154)).heap.size:=by simp
 clear hZ aj hS hC
 go_enter Tryz.func92,Tryz.ntmps92
 go_upto_region 1 with fail;generalize (w.alloc (pstO s (.slice Q s.slots.length G) (.slice O s.ends.length I))).alloc (.cells #[.bool false,.slice none 0 0,.bool false,.slice none 0 0,.bool false,.slice none 0 0,.bool false,.slice none 0 0,.bool false,.slice none 0 0,.bool false,.int .u8 0,.int .i64 0,.slice none 0 0] 154)=W at *;have HT:=Hq (hT.later Y);have am:=Hq (HS.out.later Y);obtain⟨i0,i1,i2,i3,i4⟩:=hI;have HB:=Hq Y;have ay:=Y.size;clear Y hT HS;go_wp2_with fail;refine (gx s _ _ _ HC.out HT.out am.out).mono ?_;rintro e w1 ⟨⟨g,c,rfl,bk,hL⟩,V⟩;obtain⟨U,cc,sv,d,ak,ag⟩:=hL j hj
 obtain⟨af,Z,az⟩:∃Q G,sv=.slice Q (stps (tl s.tab j)).length G:=by
  obtain⟨Q,G,e,_⟩:=TRow.form ag;exact⟨Q,G,e⟩
 subst az;have J:=ai.later hq V;have ae:=Hq ak;have aq:=Hq ag;have ax:=Hq (ah.later V);have av:=Hq (HB.out.trans (V.mono ay));have L0:w1.cell? ⟨g,j*14,none⟩=some (.bool (Txt.opn (pt (tl s.tab j) 0))):=(d 0 (by decide)).trans rfl
 obtain⟨⟨u0,r0⟩,f0⟩:=J 0 (by decide)
 have L1:w1.cell? ⟨g,j*14+1,none⟩=some (.slice (some ⟨U 0,0,none⟩) (Txt.pcs 44 (pt (tl s.tab j) 0)).length (cc 0)):=(d 1 (by decide)).trans rfl
 obtain⟨⟨u1,r1⟩,f1⟩:=J 1 (by decide)
 have L2:w1.cell? ⟨g,j*14+2,none⟩=some (.bool (Txt.opn (pt (tl s.tab j) 1))):=(d 2 (by decide)).trans rfl
 obtain⟨⟨u2,r2⟩,f2⟩:=J 2 (by decide)
 have L3:w1.cell? ⟨g,j*14+3,none⟩=some (.slice (some ⟨U 1,0,none⟩) (Txt.pcs 44 (pt (tl s.tab j) 1)).length (cc 1)):=(d 3 (by decide)).trans rfl
 obtain⟨⟨u3,r3⟩,f3⟩:=J 3 (by decide)
 have L4:w1.cell? ⟨g,j*14+4,none⟩=some (.bool (Txt.opn (pt (tl s.tab j) 2))):=(d 4 (by decide)).trans rfl
 obtain⟨⟨u4,r4⟩,f4⟩:=J 4 (by decide)
 have L5:w1.cell? ⟨g,j*14+5,none⟩=some (.slice (some ⟨U 2,0,none⟩) (Txt.pcs 44 (pt (tl s.tab j) 2)).length (cc 2)):=(d 5 (by decide)).trans rfl
 obtain⟨⟨u5,r5⟩,f5⟩:=J 5 (by decide)
 have L6:w1.cell? ⟨g,j*14+6,none⟩=some (.bool (Txt.opn (pt (tl s.tab j) 3))):=(d 6 (by decide)).trans rfl
 obtain⟨⟨u6,r6⟩,f6⟩:=J 6 (by decide)
 have L7:w1.cell? ⟨g,j*14+7,none⟩=some (.slice (some ⟨U 3,0,none⟩) (Txt.pcs 44 (pt (tl s.tab j) 3)).length (cc 3)):=(d 7 (by decide)).trans rfl
 obtain⟨⟨u7,r7⟩,f7⟩:=J 7 (by decide)
 have L8:w1.cell? ⟨g,j*14+8,none⟩=some (.bool (Txt.opn (pt (tl s.tab j) 4))):=(d 8 (by decide)).trans rfl
 obtain⟨⟨u8,r8⟩,f8⟩:=J 8 (by decide)
 have L9:w1.cell? ⟨g,j*14+9,none⟩=some (.slice (some ⟨U 4,0,none⟩) (Txt.pcs 44 (pt (tl s.tab j) 4)).length (cc 4)):=(d 9 (by decide)).trans rfl
 obtain⟨⟨u9,r9⟩,f9⟩:=J 9 (by decide)
 have bm:w1.cell? ⟨g,j*14+10,none⟩=some (.bool (obt (pt (tl s.tab j) 5) 0==120)):=(d 10 (by decide)).trans rfl
 obtain⟨⟨bc,aE⟩,bq⟩:=J 10 (by decide)
 have bf:w1.cell? ⟨g,j*14+11,none⟩=some (.int .u8 (obt (pt (tl s.tab j) 5) 1)):=(d 11 (by decide)).trans rfl
 obtain⟨⟨bp,aw⟩,br⟩:=J 11 (by decide)
 have bo:w1.cell? ⟨g,j*14+12,none⟩=some (.int .i64 (obt (pt (tl s.tab j) 5) 2-48)):=(d 12 (by decide)).trans rfl
 obtain⟨⟨bs,aB⟩,bg⟩:=J 12 (by decide)
 have bn:w1.cell? ⟨g,j*14+13,none⟩=some (.slice af (stps (tl s.tab j)).length Z):=(d 13 (by decide)).trans rfl
 obtain⟨⟨bj,ar⟩,a9⟩:=J 13 (by decide)
 have b0:(0:Int)≤(j:Int):=by omega
 have b1:(j:Int)<(tn s.tab:Int):=by omega
 have bh:IntKind.i64.wrap ((j:Int)+1-1)=(j:Int):=by rw[IntKind.wrap_i64];omega
 have ba:IntKind.i64.wrap (j:Int)=(j:Int):=by rw[IntKind.wrap_i64];omega
 have ap:Hid (∀t:Nat,t<5→w.heap.size+1≠U t):=by
  intro t ht e;obtain⟨_,hp⟩:=ae.out t ht;have h0:=(hp 0 (Txt.pcs_ne _ _)).1;rw[←e,cell_later V al] at h0
  cases h0
 clear d ak ag hL J V ai ah HT am i0 i1 i2 i3 i4 al;go_wp2_with fail;refine bodyPost_ret (v:=lineV (tl s.tab j) U cc (.slice af (stps (tl s.tab j)).length Z)) (by simp[results,Tryz.results92,go_sem,r0,r1,r2,r3,r4,r5,r6,r7,r8,r9,aE,aw,aB,ar]) rfl ⟨⟨_,rfl,U,cc,af,Z,rfl,fun t ht=>⟨(ae.out t ht).1,fun k hk=>?_⟩,mT ax.out aq.out⟩,eu av.out (by omega)⟩
 obtain⟨p0,p1,p2⟩:=(ae.out t ht).2 k hk;have ac:=ap.out t ht;exact⟨g9 ac p0,g9 ac p1,g9 ac p2⟩
end Go.Proofs.YtdajolpoiffimabGreatDoor
