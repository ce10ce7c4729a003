import Derived.Test.YtdajolpoiffimabGreatDoorA14

namespace Go.Proofs.YtdajolpoiffimabGreatDoor
open Go.RowKit
attribute [local go_sem ↓] Go.wp_at_zero Go.wp_at_succ
theorem ep {B:Nat} {a w:World} {R:Nat} (h:Below B a w) (hR:B≤R) {v0 v1 J V Z v5 U O Q Y e d I G:Value}:Below B a ((((((((((((((w.setCell ⟨R,0,none⟩ v0).setCell ⟨R,1,none⟩ v1).setCell ⟨R,2,none⟩ J).setCell ⟨R,3,none⟩ V).setCell ⟨R,4,none⟩ Z).setCell ⟨R,5,none⟩ v5).setCell ⟨R,6,none⟩ U).setCell ⟨R,7,none⟩ O).setCell ⟨R,8,none⟩ Q).setCell ⟨R,9,none⟩ Y).setCell ⟨R,10,none⟩ e).setCell ⟨R,11,none⟩ d).setCell ⟨R,12,none⟩ I).setCell ⟨R,13,none⟩ G):=
 ((((((((((((((h.setCell hR _).setCell hR _).setCell hR _).setCell hR _).setCell hR _).setCell hR _).setCell hR _).setCell hR _).setCell hR _).setCell hR _).setCell hR _).setCell hR _).setCell hR _).setCell hR _)
theorem iO {w:World} {R x o:Nat} {u V v1 Q v3 v4 v5 Z U Y v9 I G O J:Value} (af:R<x) (h:w.cell? ⟨x,o,none⟩=some u):((((((((((((((w.setCell ⟨R,0,none⟩ V).setCell ⟨R,1,none⟩ v1).setCell ⟨R,2,none⟩ Q).setCell ⟨R,3,none⟩ v3).setCell ⟨R,4,none⟩ v4).setCell ⟨R,5,none⟩ v5).setCell ⟨R,6,none⟩ Z).setCell ⟨R,7,none⟩ U).setCell ⟨R,8,none⟩ Y).setCell ⟨R,9,none⟩ v9).setCell ⟨R,10,none⟩ I).setCell ⟨R,11,none⟩ G).setCell ⟨R,12,none⟩ O).setCell ⟨R,13,none⟩ J).cell? ⟨x,o,none⟩=some u:=by
 have d:∀j:Nat,(⟨R,j,none⟩:Addr)≠⟨x,o,none⟩:=fun j e=>by cases e;omega
 rw[World.cell?_setCell_other _ _ _ _ (d _),World.cell?_setCell_other _ _ _ _ (d _),World.cell?_setCell_other _ _ _ _ (d _),World.cell?_setCell_other _ _ _ _ (d _),World.cell?_setCell_other _ _ _ _ (d _),World.cell?_setCell_other _ _ _ _ (d _),World.cell?_setCell_other _ _ _ _ (d _),World.cell?_setCell_other _ _ _ _ (d _),World.cell?_setCell_other _ _ _ _ (d _),World.cell?_setCell_other _ _ _ _ (d _),World.cell?_setCell_other _ _ _ _ (d _),World.cell?_setCell_other _ _ _ _ (d _),World.cell?_setCell_other _ _ _ _ (d _),World.cell?_setCell_other _ _ _ _ (d _)];exact h
theorem qU {w:World} {R d size n:Nat} {e:TypeId} {v:Value} {G:List Value} {v0 v1 U v3 v4 v5 Z V Y v9 J I Q O:Value} (h:w.ownsRow d e size v n G) (hR:R<d):((((((((((((((w.setCell ⟨R,0,none⟩ v0).setCell ⟨R,1,none⟩ v1).setCell ⟨R,2,none⟩ U).setCell ⟨R,3,none⟩ v3).setCell ⟨R,4,none⟩ v4).setCell ⟨R,5,none⟩ v5).setCell ⟨R,6,none⟩ Z).setCell ⟨R,7,none⟩ V).setCell ⟨R,8,none⟩ Y).setCell ⟨R,9,none⟩ v9).setCell ⟨R,10,none⟩ J).setCell ⟨R,11,none⟩ I).setCell ⟨R,12,none⟩ Q).setCell ⟨R,13,none⟩ O).ownsRow d e size v n G:=by
 have q:∀(w:World) (j:Nat) (u:Value),w.ownsRow d e size v n G→(w.setCell ⟨R,j,none⟩ u).ownsRow d e size v n G:=fun w j u h=>ownsRow_setCell_below h (by simpa using hR) u
 exact (q _ _ _ (q _ _ _ (q _ _ _ (q _ _ _ (q _ _ _ (q _ _ _ (q _ _ _ (q _ _ _ (q _ _ _ (q _ _ _ (q _ _ _ (q _ _ _ (q _ _ _ (q _ _ _ h))))))))))))))
abbrev zeroLine:Value:=.agg #[.bool false,.slice none 0 0,.bool false,.slice none 0 0,.bool false,.slice none 0 0,.bool false,.slice none 0 0,.bool false,.slice none 0 0,.bool false,.int .u8 0,.int .i64 0,.slice none 0 0]
abbrev lineV (s:ByteArray) (bb cc:Nat→Nat) (sv:Value):Value:=.agg #[.bool (Txt.opn (pt s 0)),.slice (some ⟨bb 0,0,none⟩) (Txt.pcs 44 (pt s 0)).length (cc 0),.bool (Txt.opn (pt s 1)),.slice (some ⟨bb 1,0,none⟩) (Txt.pcs 44 (pt s 1)).length (cc 1),.bool (Txt.opn (pt s 2)),.slice (some ⟨bb 2,0,none⟩) (Txt.pcs 44 (pt s 2)).length (cc 2),.bool (Txt.opn (pt s 3)),.slice (some ⟨bb 3,0,none⟩) (Txt.pcs 44 (pt s 3)).length (cc 3),.bool (Txt.opn (pt s 4)),.slice (some ⟨bb 4,0,none⟩) (Txt.pcs 44 (pt s 4)).length (cc 4),.bool (obt (pt s 5) 0==120),.int .u8 (obt (pt s 5) 1),.int .i64 (obt (pt s 5) 2-48),sv]
theorem qw {w:World} {G d:Nat} {e:TypeId} {size:Nat} {v:Value} {n:Nat} {J:List Value} (h:w.ownsRow G e size v n J) (hb:d≤G):w.ownsRow d e size v n J:=by
 refine⟨h.1,?_⟩
 rcases h.2 with h2|⟨g,I,cur,Q,hbase,O⟩
 ·exact Or.inl h2
 ·exact Or.inr ⟨g,I,cur,Q,Nat.le_trans hb hbase,O⟩
def LineR (s:ByteArray) (h:Nat) (w':World) (e:Ending):Prop:=
 (lineB s=true∧∃(bb cc:Nat→Nat) (sv:Value),e=.returned (.tuple #[lineV s bb cc sv,.bool true])∧(∀j:Nat,j<5→h≤bb j∧(Txt.pcs 44 (pt s j)).length≤cc j∧PartsAt w' (bb j) (lo j) (hi j) (Txt.pcs 44 (pt s j)))∧w'.ownsRow h 202 2 sv (stps s).length ((stps s).flatMap spC))∨
 (lineB s=false∧e=.returned (.tuple #[zeroLine,.bool false]))
set_option maxRecDepth 10000 in
set_option maxHeartbeats 3000000 in
theorem gY (s:ByteArray) (w:World) (hs:s.size≤300) (hT:TabLH w):
 Calls Tryz.prog 122 #[.string s] w fun e w'=>LineR s w.heap.size w' e∧Below w.heap.size w w':=by
 have bT:0<w.heap.size∧1<w.heap.size:=⟨World.block_lt_of_cell? _ _ (hT 0 (by decide)).1,World.block_lt_of_cell? _ _ (hT 0 (by decide)).2⟩
 have bk:Hid (∀o,TabLH (w.alloc o)):=fun o=>hT.later (cw _ _)
 clear hT
 go_enter Tryz.func122,Tryz.ntmps122
 go_wp2_with fail;refine (fW _ _ _ hs).mono ?_;rintro e w1 ⟨⟨b,aL,rfl,bX,cp,hS⟩,hb⟩;have cA:=Txt.pcs_len 32 s;have bs:Hid (∀o,TabLH (w1.alloc o)):=fun o=>((bk.out _).later hb).later (cw _ _)
 clear bk;have B1:Hid (Below w.heap.size w w1):=(cw w _).trans (hb.mono (by simp))
 have bK:w.heap.size<b:=by simp at bX;omega
 have bM:b<w1.heap.size:=World.block_lt_of_cell? _ _ (hS 0 (Txt.pcs_ne _ _));have br:w.heap.size<w1.heap.size:=by omega
 by_cases n7:(Txt.pcs 32 s).length≤6
 ·have U:Hid (lineB s=false):=eh (fun h=>by have:=h.n7;omega)
  obtain⟨hc,hf⟩:=dT hb;clear hb hS;go_wp2_with fail;exact bodyPost_ret (v:=.tuple #[zeroLine,.bool false]) (by simp[results,Tryz.results122,go_sem,hc]) rfl ⟨Or.inr ⟨U.out,rfl⟩,ep B1.out (Nat.le_refl _)⟩
 by_cases n11:11<(Txt.pcs 32 s).length
 ·have U:Hid (lineB s=false):=eh (fun h=>by have:=h.n11;omega)
  obtain⟨hc,hf⟩:=dT hb;clear hb hS;go_wp2_with fail;exact bodyPost_ret (v:=.tuple #[zeroLine,.bool false]) (by simp[results,Tryz.results122,go_sem,hc]) rfl ⟨Or.inr ⟨U.out,rfl⟩,ep B1.out (Nat.le_refl _)⟩
 have H0:LInv w (w1.alloc (.cells #[.bool false,.slice none 0 0,.bool false,.slice none 0 0,.bool false,.slice none 0 0,.bool false,.slice none 0 0,.bool false,.slice none 0 0,.bool false,.int .u8 0,.int .i64 0,.slice none 0 0] 154)) b w1.heap.size s 0 (fun _=>0) (fun _=>0):=by
  refine⟨hS.later (cw _ _),bs.out _,?_,fun j h=>by omega,?_,?_,?_,fun j h=>by omega,B1.out.alloc (Nat.le_of_lt br) _,bK,bM,by simp,bT⟩
  ·intro j I;have aC:j=0∨j=1∨j=2∨j=3∨j=4∨j=5∨j=6∨j=7∨j=8∨j=9∨j=10∨j=11∨j=12∨j=13:=by omega
   refine⟨cell_later (cw _ _) (cell_later hb ?_),?_⟩
   ·rcases aC with rfl|rfl|rfl|rfl|rfl|rfl|rfl|rfl|rfl|rfl|rfl|rfl|rfl|rfl<;>simp[go_sem,zc]
   ·rw[(cw w1 _).frozen (p:=⟨w.heap.size,j,none⟩) (by simpa using br),hb.frozen (p:=⟨w.heap.size,j,none⟩) (by simp)]
    simp[go_sem]
  ·intro j _ I;have aC:j=0∨j=1∨j=2∨j=3∨j=4:=by omega
   rcases aC with rfl|rfl|rfl|rfl|rfl<;>simp[go_sem]
  ·intro j h6 I;have aC:j=10∨j=11∨j=12∨j=13:=by omega
   rcases aC with rfl|rfl|rfl|rfl<;>simp[go_sem,zc]
  ·intro j I;simp[go_sem]
 clear hb hS bs B1;go_wp2_with fail
 go_loopw [6] (fun x wr=>∃(k:Nat) (bb cc:Nat→Nat),k≤5∧x=.int .i64 k∧(∀(j:Nat),j<k→Txt.fldB (lo j) (hi j) (pt s j)=true)∧LInv w wr b w1.heap.size s k bb cc) (fun x _=>5-(intOf x).toNat)
 case atStart=>exact⟨0,_,_,by omega,rfl,fun j h=>by omega,H0⟩
 case round=>
  clear H0;obtain⟨k,bb,cc,hk,rfl,ai,G⟩:=hrel;have HA:=Hq ai;clear ai
  by_cases aj:k<5
  ·have ag:k<(Txt.pcs 32 s).length:=by omega
   have J:wr.cell? ⟨b,k,none⟩=some (.string (pt s k)):=by rw[←eM ag];exact G.strs k ag
   have zk:Hid ((pt s k).size≤300):=by rw[←eM ag];exact Txt.pcs_sz hs k ag
   obtain⟨c1,c2⟩:=G.tabs k aj;have lh:=ge k;have b0:(0:Int)≤(k:Int):=by omega
   have b1:(k:Int)<5:=by omega
   have b2:(k:Int)<((Txt.pcs 32 s).length:Int):=by omega
   have e1:=World.new_ne wr _ J;have e2:=World.new_ne wr _ c1;have e3:=World.new_ne wr _ c2;have z1:b<wr.heap.size:=World.block_lt_of_cell? _ _ J;have z2:0<wr.heap.size:=World.block_lt_of_cell? _ _ c1;have z3:1<wr.heap.size:=World.block_lt_of_cell? _ _ c2;go_wp2_with fail
   go_region_held3 (fun w'=>w'.cell? ⟨b,k,none⟩=some (.string (pt s k))∧w'.cell? ⟨0,k,none⟩=some (.int .i64 (lo k))∧w'.cell? ⟨1,k,none⟩=some (.int .i64 (hi k))) (first |exact⟨cell_later Z J,cell_later Z c1,cell_later Z c2⟩|exact⟨cell_later (Z.alloc Z.size _) J,cell_later (Z.alloc Z.size _) c1,cell_later (Z.alloc Z.size _) c2⟩|exact⟨J,c1,c2⟩|exact⟨cell_later (cw _ _) J,cell_later (cw _ _) c1,cell_later (cw _ _) c2⟩|go_keep) ((go_at_call 156;refine (jh _ _ _ _ zk.out (by omega) (by omega) (by omega) (by omega)).mono ?_;rintro e O ⟨o,ad,n,c,ok,rfl,hR,Y⟩;have Z:Below wr.heap.size wr O:=(by first |exact (Below.refl _ _).drew.trans Y|exact (cw _ _).drew.trans (Y.mono (by simp)));obtain⟨cJ,cG⟩:=dT Y))
   ·have F:Flat (lo k) (hi k) (pt s k) wr (O.alloc (.cells #[.bool o,.slice ad n c] 148)) O.heap.size o ad n c ok:=tC hR.out Y _;clear hR Y;generalize O.alloc (.cells #[.bool o,.slice ad n c] 148)=W3 at *;generalize O.heap.size=q at *;obtain⟨HB,g0,g1,hF⟩:=F;have d:=G.below HB;have z4:w.heap.size<W3.heap.size:=by have:=d.hR;have:=d.hb;have:=d.hL;omega
    have bZ:=G.hL;clear G J c1 c2 e1 e2 e3 z1 z2 z3 HB
    rcases hF with ⟨kk,rfl,rfl,b',rfl,rfl,bw,aU,hP⟩|⟨kk,rfl,rfl,rfl,rfl,rfl⟩
    ·have U:=Hq kk;have aA:Hid _:=d.store aj (by omega) aU hP
     obtain⟨y0,y1⟩:=d.ln2 k (Nat.le_refl _) aj;have y2:=d.lnf (k*2) (by omega)
     have y3:=d.lnf (k*2+1) (by omega)
     clear kk d hP;go_wp2_with fail;go_roundw
     case rel=>
      refine⟨k+1,_,_,by omega,by go_num,fun j h=>?_,aA.out⟩
      by_cases e:j=k
      ·subst e;exact U.out
      ·exact HA.out j (by omega)
     case measure=>simp[intOf];omega
    ·have U:Hid (lineB s=false):=eh (fun h=>by have V:=h.fld k ag aj;rw[eM ag,kk] at V;cases V)
     have BB:Hid (Below w.heap.size w W3):=d.bel;have r0:_=some (Value.bool false):=(d.res 0 (by decide)).1
     have s0:=(d.res 0 (by decide)).2
     have r1:_=some (Value.slice none 0 0):=(d.res 1 (by decide)).1
     have s1:=(d.res 1 (by decide)).2
     have r2:_=some (Value.bool false):=(d.res 2 (by decide)).1
     have s2:=(d.res 2 (by decide)).2
     have r3:_=some (Value.slice none 0 0):=(d.res 3 (by decide)).1
     have s3:=(d.res 3 (by decide)).2
     have r4:_=some (Value.bool false):=(d.res 4 (by decide)).1
     have s4:=(d.res 4 (by decide)).2
     have r5:_=some (Value.slice none 0 0):=(d.res 5 (by decide)).1
     have s5:=(d.res 5 (by decide)).2
     have r6:_=some (Value.bool false):=(d.res 6 (by decide)).1
     have s6:=(d.res 6 (by decide)).2
     have r7:_=some (Value.slice none 0 0):=(d.res 7 (by decide)).1
     have s7:=(d.res 7 (by decide)).2
     have r8:_=some (Value.bool false):=(d.res 8 (by decide)).1
     have s8:=(d.res 8 (by decide)).2
     have r9:_=some (Value.slice none 0 0):=(d.res 9 (by decide)).1
     have s9:=(d.res 9 (by decide)).2
     have ae:_=some (Value.bool false):=(d.res 10 (by decide)).1
     have aN:=(d.res 10 (by decide)).2
     have ab:_=some (Value.int .u8 0):=(d.res 11 (by decide)).1
     have aJ:=(d.res 11 (by decide)).2
     have aa:_=some (Value.int .i64 0):=(d.res 12 (by decide)).1
     have aM:=(d.res 12 (by decide)).2
     have ac:_=some (Value.slice none 0 0):=(d.res 13 (by decide)).1
     have aK:=(d.res 13 (by decide)).2
     clear kk d;go_wp2_with fail;exact bodyPost_ret (v:=.tuple #[zeroLine,.bool false]) (by simp[results,Tryz.results122,go_sem,r0,r1,r2,r3,r4,r5,r6,r7,r8,r9,ae,ab,aa,ac]) rfl ⟨Or.inr ⟨U.out,rfl⟩,ep BB.out (Nat.le_refl _)⟩
   ·have F:Flat (lo k) (hi k) (pt s k) wr ((O.setCell ⟨wr.heap.size,0,none⟩ (.bool o)).setCell ⟨wr.heap.size,1,none⟩ (.slice ad n c)) wr.heap.size o ad n c ok:=tB hR.out Y;clear hR Y;generalize (O.setCell ⟨wr.heap.size,0,none⟩ (.bool o)).setCell ⟨wr.heap.size,1,none⟩ (.slice ad n c)=W3 at *;obtain⟨HB,g0,g1,hF⟩:=F;have d:=G.below HB;have z4:w.heap.size<W3.heap.size:=by have:=d.hR;have:=d.hb;have:=d.hL;omega
    have bZ:=G.hL;clear G J c1 c2 e1 e2 e3 z1 z2 z3 HB
    rcases hF with ⟨kk,rfl,rfl,b',rfl,rfl,bw,aU,hP⟩|⟨kk,rfl,rfl,rfl,rfl,rfl⟩
    ·have U:=Hq kk;have aA:Hid _:=d.store aj (by omega) aU hP
     obtain⟨y0,y1⟩:=d.ln2 k (Nat.le_refl _) aj;have y2:=d.lnf (k*2) (by omega)
     have y3:=d.lnf (k*2+1) (by omega)
     clear kk d hP;go_wp2_with fail;go_roundw
     case rel=>
      refine⟨k+1,_,_,by omega,by go_num,fun j h=>?_,aA.out⟩
      by_cases e:j=k
      ·subst e;exact U.out
      ·exact HA.out j (by omega)
     case measure=>simp[intOf];omega
    ·have U:Hid (lineB s=false):=eh (fun h=>by have V:=h.fld k ag aj;rw[eM ag,kk] at V;cases V)
     have BB:Hid (Below w.heap.size w W3):=d.bel;have r0:_=some (Value.bool false):=(d.res 0 (by decide)).1
     have s0:=(d.res 0 (by decide)).2
     have r1:_=some (Value.slice none 0 0):=(d.res 1 (by decide)).1
     have s1:=(d.res 1 (by decide)).2
     have r2:_=some (Value.bool false):=(d.res 2 (by decide)).1
     have s2:=(d.res 2 (by decide)).2
     have r3:_=some (Value.slice none 0 0):=(d.res 3 (by decide)).1
     have s3:=(d.res 3 (by decide)).2
     have r4:_=some (Value.bool false):=(d.res 4 (by decide)).1
     have s4:=(d.res 4 (by decide)).2
     have r5:_=some (Value.slice none 0 0):=(d.res 5 (by decide)).1
     have s5:=(d.res 5 (by decide)).2
     have r6:_=some (Value.bool false):=(d.res 6 (by decide)).1
     have s6:=(d.res 6 (by decide)).2
     have r7:_=some (Value.slice none 0 0):=(d.res 7 (by decide)).1
     have s7:=(d.res 7 (by decide)).2
     have r8:_=some (Value.bool false):=(d.res 8 (by decide)).1
     have s8:=(d.res 8 (by decide)).2
     have r9:_=some (Value.slice none 0 0):=(d.res 9 (by decide)).1
     have s9:=(d.res 9 (by decide)).2
     have ae:_=some (Value.bool false):=(d.res 10 (by decide)).1
     have aN:=(d.res 10 (by decide)).2
     have ab:_=some (Value.int .u8 0):=(d.res 11 (by decide)).1
     have aJ:=(d.res 11 (by decide)).2
     have aa:_=some (Value.int .i64 0):=(d.res 12 (by decide)).1
     have aM:=(d.res 12 (by decide)).2
     have ac:_=some (Value.slice none 0 0):=(d.res 13 (by decide)).1
     have aK:=(d.res 13 (by decide)).2
     clear kk d;go_wp2_with fail;exact bodyPost_ret (v:=.tuple #[zeroLine,.bool false]) (by simp[results,Tryz.results122,go_sem,r0,r1,r2,r3,r4,r5,r6,r7,r8,r9,ae,ab,aa,ac]) rfl ⟨Or.inr ⟨U.out,rfl⟩,ep BB.out (Nat.le_refl _)⟩
  ·obtain rfl:k=5:=by omega
   have h5:5<(Txt.pcs 32 s).length:=by omega
   have c5:wr.cell? ⟨b,5,none⟩=some (.string (pt s 5)):=by rw[←eM h5];exact G.strs 5 h5
   have zk:Hid ((pt s 5).size≤300):=by rw[←eM h5];exact Txt.pcs_sz hs 5 h5
   go_wp2_with fail;refine (jb _ _ zk.out).mono ?_;rintro e O ⟨hO,Y⟩;have Q:=G.below Y;clear G Y c5;have z4:w.heap.size<O.heap.size:=by have:=Q.hR;have:=Q.hb;have:=Q.hL;omega
   rcases hO with ⟨ho,rfl⟩|⟨ho,rfl⟩
   rotate_left
   ·have U:Hid (lineB s=false):=eh (fun h=>by have V:=h.opt h5;rw[eM h5,ho] at V;cases V)
    have d:=Q.below (cw O (.cells #[.bool false,.int .u8 0,.int .i64 0] 151));clear Q ho;go_upto_region 13 with fail;generalize O.alloc (.cells #[.bool false,.int .u8 0,.int .i64 0] 151)=W3 at *;have BB:Hid (Below w.heap.size w W3):=d.bel;have r0:_=some (Value.bool false):=(d.res 0 (by decide)).1
    have s0:=(d.res 0 (by decide)).2
    have r1:_=some (Value.slice none 0 0):=(d.res 1 (by decide)).1
    have s1:=(d.res 1 (by decide)).2
    have r2:_=some (Value.bool false):=(d.res 2 (by decide)).1
    have s2:=(d.res 2 (by decide)).2
    have r3:_=some (Value.slice none 0 0):=(d.res 3 (by decide)).1
    have s3:=(d.res 3 (by decide)).2
    have r4:_=some (Value.bool false):=(d.res 4 (by decide)).1
    have s4:=(d.res 4 (by decide)).2
    have r5:_=some (Value.slice none 0 0):=(d.res 5 (by decide)).1
    have s5:=(d.res 5 (by decide)).2
    have r6:_=some (Value.bool false):=(d.res 6 (by decide)).1
    have s6:=(d.res 6 (by decide)).2
    have r7:_=some (Value.slice none 0 0):=(d.res 7 (by decide)).1
    have s7:=(d.res 7 (by decide)).2
    have r8:_=some (Value.bool false):=(d.res 8 (by decide)).1
    have s8:=(d.res 8 (by decide)).2
    have r9:_=some (Value.slice none 0 0):=(d.res 9 (by decide)).1
    have s9:=(d.res 9 (by decide)).2
    have ae:_=some (Value.bool false):=(d.res 10 (by decide)).1
    have aN:=(d.res 10 (by decide)).2
    have ab:_=some (Value.int .u8 0):=(d.res 11 (by decide)).1
    have aJ:=(d.res 11 (by decide)).2
    have aa:_=some (Value.int .i64 0):=(d.res 12 (by decide)).1
    have aM:=(d.res 12 (by decide)).2
    have ac:_=some (Value.slice none 0 0):=(d.res 13 (by decide)).1
    have aK:=(d.res 13 (by decide)).2
    clear d;go_wp2_with fail;exact bodyPost_ret (v:=.tuple #[zeroLine,.bool false]) (by simp[results,Tryz.results122,go_sem,r0,r1,r2,r3,r4,r5,r6,r7,r8,r9,ae,ab,aa,ac]) rfl ⟨Or.inr ⟨U.out,rfl⟩,ep BB.out (Nat.le_refl _)⟩
   ·have HO:=Hq ho;clear ho;obtain⟨i0,bx,bY,cb,bP⟩:=info_parts o7;have g0:(O.alloc (.cells #[.bool (obt (pt s 5) 0==120),.int .u8 (obt (pt s 5) 1),.int .i64 (obt (pt s 5) 2-48)] 151)).cell? ⟨O.heap.size,0,none⟩=some (.bool (obt (pt s 5) 0==120)):=by simp[go_sem]
    have g1:(O.alloc (.cells #[.bool (obt (pt s 5) 0==120),.int .u8 (obt (pt s 5) 1),.int .i64 (obt (pt s 5) 2-48)] 151)).cell? ⟨O.heap.size,1,none⟩=some (.int .u8 (obt (pt s 5) 1)):=by simp[go_sem]
    have g2:(O.alloc (.cells #[.bool (obt (pt s 5) 0==120),.int .u8 (obt (pt s 5) 1),.int .i64 (obt (pt s 5) 2-48)] 151)).cell? ⟨O.heap.size,2,none⟩=some (.int .i64 (obt (pt s 5) 2-48)):=by simp[go_sem]
    have d:=Q.below (cw O (.cells #[.bool (obt (pt s 5) 0==120),.int .u8 (obt (pt s 5) 1),.int .i64 (obt (pt s 5) 2-48)] 151));clear Q;go_upto_region 13 with fail;generalize O.alloc (.cells #[.bool (obt (pt s 5) 0==120),.int .u8 (obt (pt s 5) 1),.int .i64 (obt (pt s 5) 2-48)] 151)=W3 at *;generalize O.heap.size=q2 at *;have H1:Hid (SInv w (((W3.setCell ⟨w1.heap.size,10,none⟩ (.bool (obt (pt s 5) 0==120))).setCell ⟨w1.heap.size,11,none⟩ (.int .u8 (obt (pt s 5) 1))).setCell ⟨w1.heap.size,12,none⟩ (.int .i64 (obt (pt s 5) 2-48))) b w1.heap.size W3.heap.size s 0 bb cc (.slice none 0 0)):=SInv.start d (x:=obt (pt s 5) 0==120) rfl rfl rfl;have bV:_=some (Value.bool false):=d.ln3 10 (by decide) (by decide)
    have bR:_=some (Value.int .u8 0):=d.ln3 11 (by decide) (by decide)
    have ca:_=some (Value.int .i64 0):=d.ln3 12 (by decide) (by decide)
    have b5:=d.lnf 10 (by decide)
    have b6:=d.lnf 11 (by decide)
    have bU:=d.lnf 12 (by decide)
    clear d;go_wp2_with fail
    go_loopw [11] (fun x wr=>∃(i n:Nat) (v:Value),Hid (i=6+n)∧i≤(Txt.pcs 32 s).length∧x=.int .i64 i∧(∀(j:Nat) (I:j<(Txt.pcs 32 s).length),6≤j→j<i→Txt.stepB (Txt.pcs 32 s)[j]=true)∧SInv w wr b w1.heap.size W3.heap.size s n bb cc v) (fun x _=>(Txt.pcs 32 s).length-(intOf x).toNat)
    case atStart=>exact⟨6,0,_,rfl,by omega,rfl,fun j _ h V=>by omega,H1.out⟩
    case round=>
     clear H1 bV bR ca b5 b6 bU g0 g1 g2;obtain⟨i,n,v,HN,hn,rfl,ai,G⟩:=hrel;have HT:=Hq ai;clear ai;have bm:=G.hL;have cI:=G.hbase
     by_cases aR:i<(Txt.pcs 32 s).length
     ·have aB:wr.cell? ⟨b,i,none⟩=some (.string (Txt.pcs 32 s)[i]):=G.strs i aR;have zi:Hid ((Txt.pcs 32 s)[i].size≤300):=Txt.pcs_sz hs i aR;have b1:(0:Int)≤(i:Int):=by omega
      have b2:(i:Int)<((Txt.pcs 32 s).length:Int):=by omega
      have aQ:Hid (n<(stps s).length):=by have:=HN.out;unfold Hid;rw[iM];omega
      have HX:Hid ((stps s)[n]'aQ.out=(Txt.pcs 32 s)[i]):=by
       have:=HN.out;subst this;exact rt aQ.out
      have bn:Hid (∃x,(Txt.pcs 32 s)[i]=x):=⟨_,rfl⟩;obtain⟨x,aF⟩:=bn.out;have HG:=Hq aF;rw[aF] at aB zi HX;clear aF bn;go_wp2_with fail;refine (kS _ _ zi.out).mono ?_;rintro e w3 ⟨hR,bq⟩;have Q:=G.below bq;clear G bq aB
      rcases hR with ⟨hq,rfl⟩|⟨hq,rfl⟩
      ·have HQ:=Hq hq;have g0:(w3.alloc (.cells #[.bool (sayB x),.string (x.extract 1 x.size)] 202)).cell? ⟨w3.heap.size,0,none⟩=some (.bool (sayB x)):=by simp[go_sem]
       have g1:(w3.alloc (.cells #[.bool (sayB x),.string (x.extract 1 x.size)] 202)).cell? ⟨w3.heap.size,1,none⟩=some (.string (x.extract 1 x.size)):=by simp[go_sem]
       have d:=Q.below (cw w3 (.cells #[.bool (sayB x),.string (x.extract 1 x.size)] 202));clear hq Q;go_upto_region 20 with fail;generalize w3.alloc (.cells #[.bool (sayB x),.string (x.extract 1 x.size)] 202)=W4 at *;generalize w3.heap.size=q3 at *;have b9:Hid (W3.heap.size≤W4.heap.size):=d.hbase;have bp:=d.o3;have zL:w1.heap.size<W4.heap.size:=by have:=d.hL;have:=d.hbase;omega
       have bo:Hid (W4.ownsRow W3.heap.size 202 2 v n (((stps s).take n).flatMap spC)):=d.own;have cH:n≤300:=by have:=HN.out;omega
       go_wp2_with (at_builtin;refine wpList_append_lies _ rfl (.tmp 81) (.tmp 83) 152 rfl W3.heap.size 202 i0 (.agg #[.bool false,.string ByteArray.empty]) 2 24 Tryz.underlying152 bx bY cb bP rfl (by decide) _ _ _ rfl (bo.out.alloc _) ⟨W4.heap.size,0,none⟩ 1 1 (spC x) rfl rfl ?c1 (si x) (by decide) ?c3 ?c4 ?c5 _ rfl ?_)
       case c1=>
        intro j u I
        match j,I with
        | 0,I=>simp[spC] at I;subst I;simp[Addr.add,go_sem]
        | 1,I=>simp[spC] at I;subst I;simp[Addr.add,go_sem]
       case c3=>unfold maxLen;omega
       case c4=>omega
       case c5=>have:=b9.out;simp;omega
       ·intro g' bF w4 aH az _ cn;have aD:=d.below (cw W4 (.cells #[.bool (sayB x),.string (x.extract 1 x.size)] 202))
        have aI:w4.ownsRow W3.heap.size 202 2 (.slice (some ⟨g',0,none⟩) (n+1) bF) (n+1) (((stps s).take (n+1)).flatMap spC):=by
         rw[List.take_succ_eq_append_getElem aQ.out,List.flatMap_append,HX.out]
         simpa using aH
        have HF:=aD.far az;have aA:=aD.app az aI;have d1:w4.cell? ⟨w1.heap.size,13,none⟩=some v:=(HF.cell (by simpa using bm)).trans aD.o3
        have d2:w4.frozen? ⟨w1.heap.size,13,none⟩=false:=(HF.frozen (by simpa using bm)).trans (aD.lnf 13 (by decide))
        clear aH aI az d aD HF bp bo g0 g1;go_wp2_with fail;go_roundw
        case rel=>
         refine⟨i+1,n+1,_,by have:=HN.out;unfold Hid;omega,by omega,by go_num,fun j I h1 h=>?_,aA⟩
         by_cases q:j=i
         ·subst q;rw[HG.out];exact HQ.out
         ·exact HT.out j I h1 (by omega)
        case measure=>simp[intOf];omega
      ·have U:Hid (lineB s=false):=eh (fun h=>by have V:=h.stp i aR (by have:=HN.out;omega);rw[HG.out,hq] at V;cases V)
       have d:=Q.below (cw w3 (.cells #[.bool false,.string ByteArray.empty] 202));clear Q hq;go_upto_region 20 with fail;generalize w3.alloc (.cells #[.bool false,.string ByteArray.empty] 202)=W4 at *;have BB:Hid (Below w.heap.size w W4):=d.bel;have r0:_=some (Value.bool false):=(d.res 0 (by decide)).1
       have s0:=(d.res 0 (by decide)).2
       have r1:_=some (Value.slice none 0 0):=(d.res 1 (by decide)).1
       have s1:=(d.res 1 (by decide)).2
       have r2:_=some (Value.bool false):=(d.res 2 (by decide)).1
       have s2:=(d.res 2 (by decide)).2
       have r3:_=some (Value.slice none 0 0):=(d.res 3 (by decide)).1
       have s3:=(d.res 3 (by decide)).2
       have r4:_=some (Value.bool false):=(d.res 4 (by decide)).1
       have s4:=(d.res 4 (by decide)).2
       have r5:_=some (Value.slice none 0 0):=(d.res 5 (by decide)).1
       have s5:=(d.res 5 (by decide)).2
       have r6:_=some (Value.bool false):=(d.res 6 (by decide)).1
       have s6:=(d.res 6 (by decide)).2
       have r7:_=some (Value.slice none 0 0):=(d.res 7 (by decide)).1
       have s7:=(d.res 7 (by decide)).2
       have r8:_=some (Value.bool false):=(d.res 8 (by decide)).1
       have s8:=(d.res 8 (by decide)).2
       have r9:_=some (Value.slice none 0 0):=(d.res 9 (by decide)).1
       have s9:=(d.res 9 (by decide)).2
       have ae:_=some (Value.bool false):=(d.res 10 (by decide)).1
       have aN:=(d.res 10 (by decide)).2
       have ab:_=some (Value.int .u8 0):=(d.res 11 (by decide)).1
       have aJ:=(d.res 11 (by decide)).2
       have aa:_=some (Value.int .i64 0):=(d.res 12 (by decide)).1
       have aM:=(d.res 12 (by decide)).2
       have ac:_=some (Value.slice none 0 0):=(d.res 13 (by decide)).1
       have aK:=(d.res 13 (by decide)).2
       clear d;go_wp2_with fail;exact bodyPost_ret (v:=.tuple #[zeroLine,.bool false]) (by simp[results,Tryz.results122,go_sem,r0,r1,r2,r3,r4,r5,r6,r7,r8,r9,ae,ab,aa,ac]) rfl ⟨Or.inr ⟨U.out,rfl⟩,ep BB.out (Nat.le_refl _)⟩
     ·have bj:n=(stps s).length:=by have:=HN.out;rw[iM];omega
      have U:Hid (lineB s=true):=jy ⟨by omega,by omega,fun j h V=>by rw[eM h];exact HA.out j V,fun _=>by rw[eM h5];exact HO.out,fun j h V=>HT.out j h V (by omega)⟩
      have BB:Hid (Below w.heap.size w wr):=G.bel;have HP:Hid (∀j:Nat,j<5→w.heap.size≤bb j∧(Txt.pcs 44 (pt s j)).length≤cc j∧PartsAt wr (bb j) (lo j) (hi j) (Txt.pcs 44 (pt s j))):=fun j I=>⟨by have:=(G.prt j I).1;omega,(G.prt j I).2.2⟩
      have HQ:Hid (∀j:Nat,j<5→w.heap.size<bb j):=fun j I=>by have:=(G.prt j I).1;omega
      have HW:Hid (wr.ownsRow W3.heap.size 202 2 v (stps s).length ((stps s).flatMap spC)):=by
       have:=G.own;rw[bj,List.take_length] at this;exact this
      have z6:w.heap.size<wr.heap.size:=by omega
      have r0:_=some (Value.bool false):=(G.res 0 (by decide)).1
      have s0:=(G.res 0 (by decide)).2
      have r1:_=some (Value.slice none 0 0):=(G.res 1 (by decide)).1
      have s1:=(G.res 1 (by decide)).2
      have r2:_=some (Value.bool false):=(G.res 2 (by decide)).1
      have s2:=(G.res 2 (by decide)).2
      have r3:_=some (Value.slice none 0 0):=(G.res 3 (by decide)).1
      have s3:=(G.res 3 (by decide)).2
      have r4:_=some (Value.bool false):=(G.res 4 (by decide)).1
      have s4:=(G.res 4 (by decide)).2
      have r5:_=some (Value.slice none 0 0):=(G.res 5 (by decide)).1
      have s5:=(G.res 5 (by decide)).2
      have r6:_=some (Value.bool false):=(G.res 6 (by decide)).1
      have s6:=(G.res 6 (by decide)).2
      have r7:_=some (Value.slice none 0 0):=(G.res 7 (by decide)).1
      have s7:=(G.res 7 (by decide)).2
      have r8:_=some (Value.bool false):=(G.res 8 (by decide)).1
      have s8:=(G.res 8 (by decide)).2
      have r9:_=some (Value.slice none 0 0):=(G.res 9 (by decide)).1
      have s9:=(G.res 9 (by decide)).2
      have ae:_=some (Value.bool false):=(G.res 10 (by decide)).1
      have aN:=(G.res 10 (by decide)).2
      have ab:_=some (Value.int .u8 0):=(G.res 11 (by decide)).1
      have aJ:=(G.res 11 (by decide)).2
      have aa:_=some (Value.int .i64 0):=(G.res 12 (by decide)).1
      have aM:=(G.res 12 (by decide)).2
      have ac:_=some (Value.slice none 0 0):=(G.res 13 (by decide)).1
      have aK:=(G.res 13 (by decide)).2
      have d0:_=some (Value.bool (Txt.opn (pt s 0))):=(G.ln1 0 (by decide)).1
      have d1:_=some (Value.slice (some ⟨bb 0,0,none⟩) (Txt.pcs 44 (pt s 0)).length (cc 0)):=(G.ln1 0 (by decide)).2
      have d2:_=some (Value.bool (Txt.opn (pt s 1))):=(G.ln1 1 (by decide)).1
      have d3:_=some (Value.slice (some ⟨bb 1,0,none⟩) (Txt.pcs 44 (pt s 1)).length (cc 1)):=(G.ln1 1 (by decide)).2
      have d4:_=some (Value.bool (Txt.opn (pt s 2))):=(G.ln1 2 (by decide)).1
      have d5:_=some (Value.slice (some ⟨bb 2,0,none⟩) (Txt.pcs 44 (pt s 2)).length (cc 2)):=(G.ln1 2 (by decide)).2
      have d6:_=some (Value.bool (Txt.opn (pt s 3))):=(G.ln1 3 (by decide)).1
      have d7:_=some (Value.slice (some ⟨bb 3,0,none⟩) (Txt.pcs 44 (pt s 3)).length (cc 3)):=(G.ln1 3 (by decide)).2
      have d8:_=some (Value.bool (Txt.opn (pt s 4))):=(G.ln1 4 (by decide)).1
      have d9:_=some (Value.slice (some ⟨bb 4,0,none⟩) (Txt.pcs 44 (pt s 4)).length (cc 4)):=(G.ln1 4 (by decide)).2
      have cF:=G.o0;have cE:=G.o1;have cK:=G.o2;have bp:=G.o3;simp only [Nat.zero_mul,Nat.zero_add,Nat.one_mul,Nat.reduceMul,Nat.reduceAdd] at d0 d1 d2 d3 d4 d5 d6 d7 d8 d9
      obtain⟨bS,bD,b8⟩:∃ad aL,v=.slice ad (stps s).length aL:=by
       obtain⟨ad,aL,e,_⟩:=(RowAt.of_own HW.out).form;exact⟨ad,aL,e⟩
      subst b8;clear G bj;go_wp2_with fail;refine bodyPost_ret (v:=.tuple #[lineV s bb cc (.slice bS (stps s).length bD),.bool true]) (by simp[results,Tryz.results122,go_sem,r0,r1,r2,r3,r4,r5,r6,r7,r8,r9,ae,ab,aa,ac]) rfl ⟨Or.inl ⟨U.out,bb,cc,_,rfl,fun j I=>⟨(HP.out j I).1,(HP.out j I).2.1,?_⟩,qw (qU HW.out (by omega)) (by omega)⟩,ep BB.out (Nat.le_refl _)⟩
      have aW:=HQ.out j I;intro t ht;obtain⟨p0,p1,p2⟩:=(HP.out j I).2.2 t ht;exact⟨iO aW p0,iO aW p1,iO aW p2⟩
end Go.Proofs.YtdajolpoiffimabGreatDoor

namespace Go.Proofs.YtdajolpoiffimabGreatDoor
open Go.RowKit
def lcells (s:ByteArray) (bb cc:Nat→Nat) (sv:Value):List Value:=[.bool (Txt.opn (pt s 0)),.slice (some ⟨bb 0,0,none⟩) (Txt.pcs 44 (pt s 0)).length (cc 0),.bool (Txt.opn (pt s 1)),.slice (some ⟨bb 1,0,none⟩) (Txt.pcs 44 (pt s 1)).length (cc 1),.bool (Txt.opn (pt s 2)),.slice (some ⟨bb 2,0,none⟩) (Txt.pcs 44 (pt s 2)).length (cc 2),.bool (Txt.opn (pt s 3)),.slice (some ⟨bb 3,0,none⟩) (Txt.pcs 44 (pt s 3)).length (cc 3),.bool (Txt.opn (pt s 4)),.slice (some ⟨bb 4,0,none⟩) (Txt.pcs 44 (pt s 4)).length (cc 4),.bool (obt (pt s 5) 0==120),.int .u8 (obt (pt s 5) 1),.int .i64 (obt (pt s 5) 2-48),sv]
def StepsAt (w:World) (s:ByteArray) (sv:Value):Prop:=TRow w 202 sv (stps s).length ((stps s).flatMap spC)
def LineAt (w:World) (s:ByteArray) (bb cc:Nat→Nat):Prop:=∀t:Nat,t<5→(Txt.pcs 44 (pt s t)).length≤cc t∧PartsAt w (bb t) (lo t) (hi t) (Txt.pcs 44 (pt s t))
def PLinesAt (w:World) (g:Nat) (s:ByteArray):Prop:=∀i:Nat,i<tn s→∃(bb cc:Nat→Nat) (sv:Value),(∀j:Nat,j<14→w.cell? ⟨g,i*14+j,none⟩=(lcells (tl s i) bb cc sv)[j]?)∧LineAt w (tl s i) bb cc∧StepsAt w (tl s i) sv
theorem LineAt.later {w d:World} {s:ByteArray} {I G:Nat→Nat} (h:LineAt w s I G) (q:Below w.heap.size w d):LineAt d s I G:=fun t e=>⟨(h t e).1,(h t e).2.later q⟩
theorem lz (s:ByteArray) (w e:Nat→Nat) (d:Value) (j:Nat) (G:j<14):∃v,(lcells s w e d)[j]? =some v:=⟨(lcells s w e d)[j]'(by simp[lcells];omega),by simp⟩
theorem PLinesAt.later {w d:World} {g:Nat} {s:ByteArray} (h:PLinesAt w g s) (q:Below w.heap.size w d):PLinesAt d g s:=by
 intro i hi;obtain⟨G,e,J,h1,h2,O⟩:=h i hi;refine⟨G,e,J,fun j I=>?_,h2.later q,TRow.later O q⟩
 obtain⟨v,Q⟩:=lz (tl s i) G e J j I;have:=h1 j I;rw[Q] at this ⊢;exact cell_later q this
theorem PartsAt.lt {w:World} {x:Nat} {l g:Int} {p:ByteArray} (h:PartsAt w x l g (Txt.pcs 44 p)):x<w.heap.size:=World.block_lt_of_cell? _ _ (h 0 (Txt.pcs_ne _ _)).1
structure RInv (w wr:World) (base b:Nat) (s:ByteArray) (k:Nat) (v:Value) (xs:List Value):Prop where
 strs:StrsAt wr b (Txt.pcs 10 s)
 tabs:TabLH wr
 c0:wr.cell? ⟨w.heap.size,0,none⟩=some (.slice none 0 0)
 c1:wr.cell? ⟨w.heap.size,1,none⟩=some (.int .i64 0)
 c2:wr.cell? ⟨w.heap.size,2,none⟩=some (.int .i64 0)
 f0:wr.frozen? ⟨w.heap.size,0,none⟩=false
 f1:wr.frozen? ⟨w.heap.size,1,none⟩=false
 f2:wr.frozen? ⟨w.heap.size,2,none⟩=false
 own:wr.ownsRow base 154 14 v k xs
 ty:Typed wr w.heap.size 134
 lns:∀i:Nat,i<k→∃(bb cc:Nat→Nat) (sv:Value),(∀j:Nat,j<14→xs[i*14+j]? =(lcells (tl s i) bb cc sv)[j]?)∧LineAt wr (tl s i) bb cc∧StepsAt wr (tl s i) sv∧∀t:Nat,t<5→base≤bb t∧some (bb t)≠v.ownBlock
 bel:Below w.heap.size w wr
 hR:w.heap.size<base
 hb:b<base
 h2:2<base
 hbase:base≤wr.heap.size
theorem RInv.below {w wr e:World} {d b k:Nat} {s:ByteArray} {v:Value} {G:List Value} (h:RInv w wr d b s k v G) (q:Below wr.heap.size wr e):RInv w e d b s k v G:=by
 have h1:=h.hR;have Z:=h.hbase;refine⟨h.strs.later q,h.tabs.later q,cell_later q h.c0,cell_later q h.c1,cell_later q h.c2,(q.frozen (by simp;omega)).trans h.f0,(q.frozen (by simp;omega)).trans h.f1,(q.frozen (by simp;omega)).trans h.f2,dU h.own q,h.ty.later q,?_,h.bel.trans (q.mono (by omega)),h.hR,h.hb,h.h2,Nat.le_trans h.hbase q.size⟩
 intro i hi;obtain⟨O,J,U,I,Y,V,Q⟩:=h.lns i hi;exact⟨O,J,U,I,Y.later q,TRow.later V q,Q⟩
theorem RInv.app {w wr J:World} {G b k g ad H0:Nat} {s:ByteArray} {v sv:Value} {Z:List Value} {O cc:Nat→Nat} (h:RInv w wr G b s k v Z) (U:wr.grownBy J v.ownBlock)
 (ho:J.ownsRow G 154 14 (.slice (some ⟨g,0,none⟩) (k+1) ad) (k+1) (Z++lcells (tl s k) O cc sv)) (ae:v.ownBlock=some g∨g=wr.heap.size)
 (hv:∀g0,v.ownBlock=some g0→g0<H0) (ar:G≤H0) (hn:LineAt wr (tl s k) O cc) (au:StepsAt wr (tl s k) sv) (V:∀t:Nat,t<5→H0≤O t):RInv w J G b s (k+1) (.slice (some ⟨g,0,none⟩) (k+1) ad) (Z++lcells (tl s k) O cc sv):=by
 have q:Below G wr J:=(Below.refl _ _).grown U h.hbase (fun k' e=>(h.own.lt k' e).1)
 have h1:=h.hR;have h3:=h.hbase;have h4:=h.h2;have h5:=h.hb;have h6:=h.bel.size;have cell:∀(a j:Nat) (u:Value),a<G→wr.cell? ⟨a,j,none⟩=some u→J.cell? ⟨a,j,none⟩=some u:=fun a j u ha hc=>(q.cell (p:=⟨a,j,none⟩) ha).trans hc
 have Y:∀(a j:Nat),a<G→J.frozen? ⟨a,j,none⟩=wr.frozen? ⟨a,j,none⟩:=fun a j ha=>q.frozen (p:=⟨a,j,none⟩) ha
 have Q:∀(x:Nat) (l g':Int) (L:List ByteArray),some x≠v.ownBlock→PartsAt wr x l g' L→PartsAt J x l g' L:=fun x l g' L hx hp j I=>
  ⟨U.cell (hp j I).1 hx,U.cell (hp j I).2.1 hx,U.cell (hp j I).2.2 hx⟩
 have az:Z.length=k*14:=h.own.1;have ac:∀(z:ByteArray) (u:Value),StepsAt wr z u→StepsAt J z u:=fun z u hz=>TRow.grown hz h.own U (by decide)
 refine⟨fun j I=>cell _ _ _ h.hb (h.strs j I),fun j I=>⟨cell _ _ _ (by omega) (h.tabs j I).1,cell _ _ _ (by omega) (h.tabs j I).2⟩,cell _ _ _ h1 h.c0,cell _ _ _ h1 h.c1,cell _ _ _ h1 h.c2,
  (Y _ _ h1).trans h.f0,(Y _ _ h1).trans h.f1,(Y _ _ h1).trans h.f2,ho,h.ty.below h1 q,?_,h.bel.trans (q.mono (by omega)),h.hR,h.hb,h.h2,Nat.le_trans h.hbase U.size⟩
 intro i hi
 by_cases e:i=k
 ·subst e
  have aw:∀t:Nat,t<5→some (O t)≠v.ownBlock:=fun t d e=>by
   have a:=hv (O t) e.symm;have b:=V t d;omega
  refine⟨O,cc,sv,fun j I=>?_,fun t d=>⟨(hn t d).1,Q _ _ _ _ (aw t d) (hn t d).2⟩,ac _ _ au,fun t d=>⟨Nat.le_trans ar (V t d),?_⟩⟩
  ·rw[List.getElem?_append_right (by omega)]
   have:i*14+j-Z.length=j:=by omega
   rw[this]
  ·have ao:=(hn t d).2.lt
   rcases ae with a|a
   ·have:=hv g a;have:=V t d;intro e;simp[Value.ownBlock] at e;omega
   ·intro e;simp[Value.ownBlock] at e;omega
 ·have am:i<k:=by omega
  obtain⟨b1,c1,av,p1,p2,p4,p3⟩:=h.lns i am;refine⟨b1,c1,av,fun j I=>?_,fun t d=>⟨(p2 t d).1,Q _ _ _ _ (p3 t d).2 (p2 t d).2⟩,ac _ _ p4,fun t d=>⟨(p3 t d).1,?_⟩⟩
  ·rw[List.getElem?_append_left (by omega)];exact p1 j I
  ·have ao:=(p2 t d).2.lt
   rcases ae with a|a
   ·have:=(p3 t d).2;rw[a] at this;intro e;simp[Value.ownBlock] at e;exact this (by rw[e])
   ·intro e;simp[Value.ownBlock] at e;omega
theorem RInv.app2 {w e O:World} {o1 o2:Obj} {d b k g I H0:Nat} {s:ByteArray} {v U:Value} {Q:List Value} {G J:Nat→Nat} (h:RInv w e d b s k v Q) (hg:((e.alloc o1).alloc o2).grownBy O v.ownBlock)
 (ho:O.ownsRow d 154 14 (.slice (some ⟨g,0,none⟩) (k+1) I) (k+1) (Q++lcells (tl s k) G J U)) (V:v.ownBlock=some g∨g=e.heap.size+1+1)
 (hv:∀g0,v.ownBlock=some g0→g0<H0) (Y:d≤H0) (hn:LineAt e (tl s k) G J) (aa:StepsAt e (tl s k) U) (Z:∀t:Nat,t<5→H0≤G t):RInv w O d b s (k+1) (.slice (some ⟨g,0,none⟩) (k+1) I) (Q++lcells (tl s k) G J U):=
 ((h.below (cw e o1)).below (cw _ o2)).app hg ho (by simpa using V) hv Y ((hn.later (cw e o1)).later (cw _ o2)) (TRow.later (TRow.later aa (cw e o1)) (cw _ o2)) Z
theorem RInv.lines {w wr:World} {d b g e:Nat} {s:ByteArray} {Q:List Value} (h:RInv w wr d b s (tn s) (.slice (some ⟨g,0,none⟩) (tn s) e) Q):PLinesAt wr g s∧d≤g:=by
 constructor
 ·intro i hi;obtain⟨J,I,U,G,Y,V,_⟩:=h.lns i hi;refine⟨J,I,U,fun j O=>?_,Y,V⟩
  rw[h.own.cellAt (i*14+j) (by omega)];exact G j O
 ·exact (h.own.lt g rfl).1
theorem pk {w:World} {R g:Nat} {s:ByteArray} {V Y u2:Value} (ty:Typed w R 134) (_h:PLinesAt w g s) (hg:R<g) (hp:∀i:Nat,i<tn s→∃(d O:Nat→Nat) (J:Value),(∀j:Nat,j<14→w.cell? ⟨g,i*14+j,none⟩=(lcells (tl s i) d O J)[j]?)∧LineAt w (tl s i) d O∧StepsAt w (tl s i) J∧∀t:Nat,t<5→R<d t):
 PLinesAt (((w.setCell ⟨R,0,none⟩ V).setCell ⟨R,1,none⟩ Y).setCell ⟨R,2,none⟩ u2) g s:=by
 have far:∀(x o:Nat),R<x→(((w.setCell ⟨R,0,none⟩ V).setCell ⟨R,1,none⟩ Y).setCell ⟨R,2,none⟩ u2).cell? ⟨x,o,none⟩=w.cell? ⟨x,o,none⟩:=by
  intro x o hx;have I:∀j:Nat,(⟨R,j,none⟩:Addr)≠⟨x,o,none⟩:=fun j e=>by cases e;omega
  rw[World.cell?_setCell_other _ _ _ _ (I _),World.cell?_setCell_other _ _ _ _ (I _),World.cell?_setCell_other _ _ _ _ (I _)]
 intro i hi;obtain⟨d,O,J,p1,Z,p4,Q⟩:=hp i hi;refine⟨d,O,J,fun j U=>by rw[far _ _ hg];exact p1 j U,fun t G=>⟨(Z t G).1,fun j U=>?_⟩,TRow.set (TRow.set (TRow.set p4 ty (by decide) _ _) (ty.setCell _ _ _) (by decide) _ _) ((ty.setCell _ _ _).setCell _ _ _) (by decide) _ _⟩
 obtain⟨q0,q1,q2⟩:=(Z t G).2 j U;rw[far _ _ (Q t G),far _ _ (Q t G),far _ _ (Q t G)];exact⟨q0,q1,q2⟩
theorem fw {B:Nat} {a w:World} {R:Nat} (h:Below B a w) (hR:B≤R) {G e d:Value}:Below B a (((w.setCell ⟨R,0,none⟩ G).setCell ⟨R,1,none⟩ e).setCell ⟨R,2,none⟩ d):=((h.setCell hR _).setCell hR _).setCell hR _
theorem qD:(Tryz.prog.info? 154).map (fun i=>(i.zero,i.size,i.bytes))=some (some (.agg #[.bool false,.slice none 0 0,.bool false,.slice none 0 0,.bool false,.slice none 0 0,.bool false,.slice none 0 0,.bool false,.slice none 0 0,.bool false,.int .u8 0,.int .i64 0,.slice none 0 0]),14,200):=by kernel_rfl
def ReadR (s:ByteArray) (w':World) (e:Ending):Prop:=∃(a r:Int) (ad:Option Addr) (n c:Nat),e=.returned (.agg #[.slice ad n c,.int .i64 a,.int .i64 r])∧ChkR s a r∧(r=0→∃g,ad=some ⟨g,0,none⟩∧n=tn s∧n≤c∧PLinesAt w' g s)
set_option maxRecDepth 10000 in
set_option maxHeartbeats 3000000 in
theorem gB (s:ByteArray) (w:World) (hs:s.size≤maxLen) (hT:TabLH w):
 Calls Tryz.prog 84 #[.string s] w fun e w'=>ReadR s w' e∧Below w.heap.size w w':=by
 unfold maxLen at hs;have bH:0<w.heap.size∧1<w.heap.size:=⟨World.block_lt_of_cell? _ _ (hT 0 (by decide)).1,World.block_lt_of_cell? _ _ (hT 0 (by decide)).2⟩
 have aR:Hid (∀o,TabLH (w.alloc o)):=fun o=>hT.later (cw _ _)
 clear hT
 by_cases aZ:300<s.size
 ·have K:Hid (ChkR s 0 1):=ChkR.long aZ
  go_enter Tryz.func84,Tryz.ntmps84
  go_wp2_with fail;exact bodyPost_ret (v:=.agg #[.slice none 0 0,.int .i64 0,.int .i64 1]) (by simp[results,Tryz.results84,go_sem]) rfl ⟨⟨0,1,none,0,0,rfl,K.out,fun h=>by cases h⟩,cw _ _⟩
 have Q:s.size≤300:=by omega
 clear hs;obtain⟨i0,hi,aU,aV,aS⟩:=info_parts qD
 go_enter Tryz.func84,Tryz.ntmps84
 go_wp2_with fail;refine (jm _ _ Q).mono ?_;rintro e w1 ⟨⟨b,Y,rfl,bo,bx,hS⟩,hb⟩;have ba:=Txt.pcs_len 10 s;have hn:=jc s;have he:=iT (s:=tl s (tn s));have aW:Hid (∀o,TabLH (w1.alloc o)):=fun o=>((aR.out _).later hb).later (cw _ _)
 have B1:Hid (Below w.heap.size w w1):=(cw w _).trans (hb.mono (by simp))
 have bG:w.heap.size<b:=by simp at bo;omega
 have bg:b<w1.heap.size:=World.block_lt_of_cell? _ _ (hS 0 (Txt.pcs_ne _ _));have au:w.heap.size<w1.heap.size:=by omega
 have H0:RInv w (w1.alloc (.cells #[] 154)) w1.heap.size b s 0 (.slice (some ⟨w1.heap.size,0,none⟩) 0 0) []:=by
  refine⟨hS.later (cw _ _),aW.out _,cell_later (cw _ _) (cell_later hb (by simp[go_sem])),cell_later (cw _ _) (cell_later hb (by simp[go_sem])),cell_later (cw _ _) (cell_later hb (by simp[go_sem])),?_,?_,?_,?_,((Typed.new _ _ _).later hb).later (cw _ _),fun i h=>by omega,B1.out.alloc (Nat.le_of_lt au) _,au,bg,by omega,by simp⟩
  ·rw[(cw w1 _).frozen (p:=⟨w.heap.size,0,none⟩) (by simpa using au),hb.frozen (p:=⟨w.heap.size,0,none⟩) (by simp)];simp[go_sem]
  ·rw[(cw w1 _).frozen (p:=⟨w.heap.size,1,none⟩) (by simpa using au),hb.frozen (p:=⟨w.heap.size,1,none⟩) (by simp)];simp[go_sem]
  ·rw[(cw w1 _).frozen (p:=⟨w.heap.size,2,none⟩) (by simpa using au),hb.frozen (p:=⟨w.heap.size,2,none⟩) (by simp)];simp[go_sem]
  ·exact⟨rfl,Or.inr ⟨w1.heap.size,0,#[],rfl,Nat.le_refl _,(MapKept.heap_alloc w1 _).1,Nat.le_refl _,Nat.zero_le _,rfl,rfl⟩⟩
 have HN:=Hq hn;have bI:tn s≤301:=by omega
 obtain⟨hc,hf⟩:=dT hb;clear hb hS aW aR hn ba
 by_cases z:(tl s (tn s)).size=0
 ·have Z:=Hq z;rw[decide_eq_true z] at he;have hM:Hid (tn s+(if (tl s (tn s)).size=0 then 0 else 1)=tn s):=by unfold Hid;rw[if_pos z,Nat.add_zero]
  clear z
  by_cases h4:4<tn s
  ·have K:Hid (ChkR s 0 2):=ChkR.many Q (by rw[hM.out];exact h4)
   clear H0;go_wp2_with fail;exact bodyPost_ret (v:=.agg #[.slice none 0 0,.int .i64 0,.int .i64 2]) (by simp[results,Tryz.results84,go_sem,hc]) rfl ⟨⟨0,2,none,0,0,rfl,K.out,fun h=>by cases h⟩,fw B1.out (Nat.le_refl _)⟩
  have ap:Hid (tn s+(if (tl s (tn s)).size=0 then 0 else 1)≤4):=by unfold Hid;rw[hM.out];omega
  clear hc hf;go_wp2_with fail
  go_loopw [6,7] (fun v x wr=>∃(k g c:Nat) (xs:List Value),k≤tn s∧x=.int .i64 k∧v=.slice (some ⟨g,0,none⟩) k c∧k≤c∧(∀j:Nat,j<k→lineB (tl s j)=true)∧RInv w wr w1.heap.size b s k (.slice (some ⟨g,0,none⟩) k c) xs) (fun _ x _=>tn s-(intOf x).toNat)
  case atStart=>exact⟨0,_,_,_,Nat.zero_le _,rfl,rfl,Nat.le_refl _,fun j h=>by omega,H0⟩
  case round=>
   clear H0;obtain⟨k,g,c,xs,hk,rfl,rfl,aT,aa,G⟩:=hrel;have HA:=Hq aa;clear aa
   by_cases aG:k<tn s
   ·have ab:k<(Txt.pcs 10 s).length:=by have:=HN.out;omega
    have ai:wr.cell? ⟨b,k,none⟩=some (.string (tl s k)):=by rw[←ga ab];exact G.strs k ab
    have zk:Hid ((tl s k).size≤300):=fD Q k ab;have b1:(0:Int)≤(k:Int):=by omega
    have b2:(k:Int)<(tn s:Int):=by omega
    go_wp2_with fail;refine (gY _ _ zk.out G.tabs).mono ?_;rintro e O ⟨hR,aq⟩;have d:=G.below aq;have ae:∀g0,(Value.slice (some ⟨g,0,none⟩) k c).ownBlock=some g0→g0<wr.heap.size:=fun g0 e=>(G.own.lt g0 e).2
    have HV:=Hq ae;have aN:Hid (w1.heap.size≤wr.heap.size):=G.hbase;clear G aq ai ae
    rcases hR with ⟨kk,V,cc,sv,rfl,hP,J⟩|⟨kk,rfl⟩
    ·have KK:=Hq kk
     obtain⟨am,af,aM⟩:∃ad Y,sv=.slice ad (stps (tl s k)).length Y:=by
      obtain⟨ad,Y,e,_⟩:=(RowAt.of_own J).form;exact⟨ad,Y,e⟩
     subst aM;have aF:Hid (StepsAt O (tl s k) (.slice am (stps (tl s k)).length af)):=TRow.of_own J;clear J;have HP:Hid (LineAt O (tl s k) V cc∧∀t:Nat,t<5→wr.heap.size≤V t):=⟨fun t ht=>(hP t ht).2,fun t ht=>(hP t ht).1⟩
     have aO:Hid (w1.heap.size≤O.heap.size):=d.hbase;have ao:Hid (O.ownsRow w1.heap.size 154 14 (.slice (some ⟨g,0,none⟩) k c) k xs):=d.own;have bs:k≤5:=by omega
     clear kk hP;go_wp2_with (at_builtin;refine wpList_append_lies _ rfl (.tmp 48) (.tmp 50) 132 rfl w1.heap.size 154 i0 (.agg #[.bool false,.slice none 0 0,.bool false,.slice none 0 0,.bool false,.slice none 0 0,.bool false,.slice none 0 0,.bool false,.slice none 0 0,.bool false,.int .u8 0,.int .i64 0,.slice none 0 0]) 14 200 Tryz.underlying132 hi aU aV aS rfl (by decide) _ _ _ rfl ((ao.out.alloc _).alloc _) ⟨O.heap.size+1,0,none⟩ 1 1 (lcells (tl s k) V cc (.slice am (stps (tl s k)).length af)) rfl rfl ?c1 ?c2 (by decide) ?c3 ?c4 ?c5 _ rfl ?_)
     case c1=>
      intro j u hj
      have bc:j<14:=by
       rcases Nat.lt_or_ge j 14 with h|h
       ·exact h
       ·rw[List.getElem?_eq_none (by simpa [lcells] using h)] at hj;cases hj
      have aJ:j=0∨j=1∨j=2∨j=3∨j=4∨j=5∨j=6∨j=7∨j=8∨j=9∨j=10∨j=11∨j=12∨j=13:=by omega
      rcases aJ with rfl|rfl|rfl|rfl|rfl|rfl|rfl|rfl|rfl|rfl|rfl|rfl|rfl|rfl<;>(simp[lcells] at hj;subst hj;simp[Addr.add,go_sem])
     case c2=>intro u hu;simp[lcells] at hu;rcases hu with rfl|rfl|rfl|rfl|rfl|rfl|rfl|rfl|rfl|rfl|rfl|rfl|rfl|rfl<;>rfl
     case c3=>unfold maxLen;omega
     case c4=>omega
     case c5=>have:=aO.out;simp;omega
     ·intro g' c' w3 I U ar ax;have aD:=d.app2 U I ar HV.out aN.out HP.out.1 aF.out HP.out.2
      have aH:k+1≤c':=by
       rcases I.2 with ⟨h,_⟩|⟨g2,a3,cur,h,_,_,h2,_⟩
       ·cases h
       ·cases h;exact h2
      clear I U ar d ao ax;go_wp2_with fail;go_roundw
      case rel=>
       refine⟨k+1,g',c',_,by omega,by go_num,rfl,aH,fun j h=>?_,aD⟩
       by_cases q:j=k
       ·subst q;exact KK.out
       ·exact HA.out j (by omega)
      case measure=>simp[intOf];omega
    ·have K:Hid (ChkR s (k+1) 3):=ChkR.line Q ap.out k aG kk HA.out;have BB:Hid (Below w.heap.size w O):=d.bel;have r0:=d.c0;have r1:=d.c1;have r2:=d.c2;have s0:=d.f0;have s1:=d.f1;have s2:=d.f2;have z4:w.heap.size<O.heap.size:=by have:=d.hR;have:=d.hbase;omega
     clear kk d;go_wp2_with fail;refine bodyPost_ret (v:=.agg #[.slice none 0 0,.int .i64 ((k:Int)+1),.int .i64 3]) (by simp[results,Tryz.results84,go_sem,r0,r1,r2,z4]) rfl ⟨⟨_,3,none,0,0,rfl,K.out,fun h=>by cases h⟩,?_⟩
     repeat (first |exact BB.out|refine Below.setCell ?_ (by simp) _|refine Below.alloc ?_ (by first |(simp;done)|(simp;omega)) _)
   ·obtain rfl:k=tn s:=by omega
    have BB:Hid (Below w.heap.size w wr):=G.bel;have r0:=G.c0;have r1:=G.c1;have r2:=G.c2;have s0:=G.f0;have s1:=G.f1;have s2:=G.f2;have z4:w.heap.size<wr.heap.size:=by have:=G.hR;have:=G.hbase;omega
    have K:Hid (ChkR s 0 0):=ChkR.ok Q ap.out HA.out Z.out;have HL:Hid (PLinesAt wr g s):=G.lines.1;have bp:Hid (w.heap.size<g):=by have:=G.lines.2;have:=G.hR;unfold Hid;omega
    have bn:Hid (Typed wr w.heap.size 134):=G.ty
    have br:Hid (∀i:Nat,i<tn s→∃(V cc:Nat→Nat) (sv:Value),(∀j:Nat,j<14→wr.cell? ⟨g,i*14+j,none⟩=(lcells (tl s i) V cc sv)[j]?)∧LineAt wr (tl s i) V cc∧StepsAt wr (tl s i) sv∧∀t:Nat,t<5→w.heap.size<V t):=by
     intro i bq;obtain⟨V,cc,sv,p1,p2,p4,p3⟩:=G.lns i bq;refine⟨V,cc,sv,fun j hj=>?_,p2,p4,fun t ht=>by have:=(p3 t ht).1;have:=G.hR;omega⟩
     rw[G.own.cellAt (i*14+j) (by omega)];exact p1 j hj
    clear G;go_wp2_with fail;exact bodyPost_ret (v:=.agg #[.slice (some ⟨g,0,none⟩) (tn s) c,.int .i64 0,.int .i64 0]) (by simp[results,Tryz.results84,go_sem,r0,r1,r2]) rfl ⟨⟨0,0,_,_,_,rfl,K.out,fun _=>⟨g,rfl,rfl,aT,pk bn.out HL.out bp.out br.out⟩⟩,fw BB.out (Nat.le_refl _)⟩
 ·have Z:=Hq z;rw[decide_eq_false z] at he;have hM:Hid (tn s+(if (tl s (tn s)).size=0 then 0 else 1)=tn s+1):=by unfold Hid;rw[if_neg z]
  clear z
  by_cases h4:4<tn s+1
  ·have K:Hid (ChkR s 0 2):=ChkR.many Q (by rw[hM.out];exact h4)
   clear H0;go_wp2_with fail;exact bodyPost_ret (v:=.agg #[.slice none 0 0,.int .i64 0,.int .i64 2]) (by simp[results,Tryz.results84,go_sem,hc]) rfl ⟨⟨0,2,none,0,0,rfl,K.out,fun h=>by cases h⟩,fw B1.out (Nat.le_refl _)⟩
  have ap:Hid (tn s+(if (tl s (tn s)).size=0 then 0 else 1)≤4):=by unfold Hid;rw[hM.out];omega
  clear hc hf;go_wp2_with fail
  go_loopw [6,7] (fun v x wr=>∃(k g c:Nat) (xs:List Value),k≤tn s∧x=.int .i64 k∧v=.slice (some ⟨g,0,none⟩) k c∧k≤c∧(∀j:Nat,j<k→lineB (tl s j)=true)∧RInv w wr w1.heap.size b s k (.slice (some ⟨g,0,none⟩) k c) xs) (fun _ x _=>tn s-(intOf x).toNat)
  case atStart=>exact⟨0,_,_,_,Nat.zero_le _,rfl,rfl,Nat.le_refl _,fun j h=>by omega,H0⟩
  case round=>
   clear H0;obtain⟨k,g,c,xs,hk,rfl,rfl,aT,aa,G⟩:=hrel;have HA:=Hq aa;clear aa
   by_cases aG:k<tn s
   ·have ab:k<(Txt.pcs 10 s).length:=by have:=HN.out;omega
    have ai:wr.cell? ⟨b,k,none⟩=some (.string (tl s k)):=by rw[←ga ab];exact G.strs k ab
    have zk:Hid ((tl s k).size≤300):=fD Q k ab;have b1:(0:Int)≤(k:Int):=by omega
    have b2:(k:Int)<(tn s:Int):=by omega
    go_wp2_with fail;refine (gY _ _ zk.out G.tabs).mono ?_;rintro e O ⟨hR,aq⟩;have d:=G.below aq;have ae:∀g0,(Value.slice (some ⟨g,0,none⟩) k c).ownBlock=some g0→g0<wr.heap.size:=fun g0 e=>(G.own.lt g0 e).2
    have HV:=Hq ae;have aN:Hid (w1.heap.size≤wr.heap.size):=G.hbase;clear G aq ai ae
    rcases hR with ⟨kk,V,cc,sv,rfl,hP,J⟩|⟨kk,rfl⟩
    ·have KK:=Hq kk
     obtain⟨am,af,aM⟩:∃ad Y,sv=.slice ad (stps (tl s k)).length Y:=by
      obtain⟨ad,Y,e,_⟩:=(RowAt.of_own J).form;exact⟨ad,Y,e⟩
     subst aM;have aF:Hid (StepsAt O (tl s k) (.slice am (stps (tl s k)).length af)):=TRow.of_own J;clear J;have HP:Hid (LineAt O (tl s k) V cc∧∀t:Nat,t<5→wr.heap.size≤V t):=⟨fun t ht=>(hP t ht).2,fun t ht=>(hP t ht).1⟩
     have aO:Hid (w1.heap.size≤O.heap.size):=d.hbase;have ao:Hid (O.ownsRow w1.heap.size 154 14 (.slice (some ⟨g,0,none⟩) k c) k xs):=d.own;have bs:k≤5:=by omega
     clear kk hP;go_wp2_with (at_builtin;refine wpList_append_lies _ rfl (.tmp 48) (.tmp 50) 132 rfl w1.heap.size 154 i0 (.agg #[.bool false,.slice none 0 0,.bool false,.slice none 0 0,.bool false,.slice none 0 0,.bool false,.slice none 0 0,.bool false,.slice none 0 0,.bool false,.int .u8 0,.int .i64 0,.slice none 0 0]) 14 200 Tryz.underlying132 hi aU aV aS rfl (by decide) _ _ _ rfl ((ao.out.alloc _).alloc _) ⟨O.heap.size+1,0,none⟩ 1 1 (lcells (tl s k) V cc (.slice am (stps (tl s k)).length af)) rfl rfl ?c1 ?c2 (by decide) ?c3 ?c4 ?c5 _ rfl ?_)
     case c1=>
      intro j u hj
      have bc:j<14:=by
       rcases Nat.lt_or_ge j 14 with h|h
       ·exact h
       ·rw[List.getElem?_eq_none (by simpa [lcells] using h)] at hj;cases hj
      have aJ:j=0∨j=1∨j=2∨j=3∨j=4∨j=5∨j=6∨j=7∨j=8∨j=9∨j=10∨j=11∨j=12∨j=13:=by omega
      rcases aJ with rfl|rfl|rfl|rfl|rfl|rfl|rfl|rfl|rfl|rfl|rfl|rfl|rfl|rfl<;>(simp[lcells] at hj;subst hj;simp[Addr.add,go_sem])
     case c2=>intro u hu;simp[lcells] at hu;rcases hu with rfl|rfl|rfl|rfl|rfl|rfl|rfl|rfl|rfl|rfl|rfl|rfl|rfl|rfl<;>rfl
     case c3=>unfold maxLen;omega
     case c4=>omega
     case c5=>have:=aO.out;simp;omega
     ·intro g' c' w3 I U ar ax;have aD:=d.app2 U I ar HV.out aN.out HP.out.1 aF.out HP.out.2
      have aH:k+1≤c':=by
       rcases I.2 with ⟨h,_⟩|⟨g2,a3,cur,h,_,_,h2,_⟩
       ·cases h
       ·cases h;exact h2
      clear I U ar d ao ax;go_wp2_with fail;go_roundw
      case rel=>
       refine⟨k+1,g',c',_,by omega,by go_num,rfl,aH,fun j h=>?_,aD⟩
       by_cases q:j=k
       ·subst q;exact KK.out
       ·exact HA.out j (by omega)
      case measure=>simp[intOf];omega
    ·have K:Hid (ChkR s (k+1) 3):=ChkR.line Q ap.out k aG kk HA.out;have BB:Hid (Below w.heap.size w O):=d.bel;have r0:=d.c0;have r1:=d.c1;have r2:=d.c2;have s0:=d.f0;have s1:=d.f1;have s2:=d.f2;have z4:w.heap.size<O.heap.size:=by have:=d.hR;have:=d.hbase;omega
     clear kk d;go_wp2_with fail;refine bodyPost_ret (v:=.agg #[.slice none 0 0,.int .i64 ((k:Int)+1),.int .i64 3]) (by simp[results,Tryz.results84,go_sem,r0,r1,r2,z4]) rfl ⟨⟨_,3,none,0,0,rfl,K.out,fun h=>by cases h⟩,?_⟩
     repeat (first |exact BB.out|refine Below.setCell ?_ (by simp) _|refine Below.alloc ?_ (by first |(simp;done)|(simp;omega)) _)
   ·obtain rfl:k=tn s:=by omega
    have BB:Hid (Below w.heap.size w wr):=G.bel;have r0:=G.c0;have r1:=G.c1;have r2:=G.c2;have s0:=G.f0;have s1:=G.f1;have s2:=G.f2;have z4:w.heap.size<wr.heap.size:=by have:=G.hR;have:=G.hbase;omega
    have K:Hid (ChkR s (tn s+1) 3):=ChkR.last Q ap.out HA.out Z.out;clear G;go_wp2_with fail;exact bodyPost_ret (v:=.agg #[.slice none 0 0,.int .i64 ((tn s:Int)+1),.int .i64 3]) (by simp[results,Tryz.results84,go_sem,r0,r1,r2]) rfl ⟨⟨_,3,none,0,0,rfl,K.out,fun h=>by cases h⟩,fw BB.out (Nat.le_refl _)⟩
end Go.Proofs.YtdajolpoiffimabGreatDoor
