import Derived.Deep.RegionHeld3
import Derived.Test.YtdajolpoiffimabGreatDoorA25

namespace Go.Proofs.YtdajolpoiffimabGreatDoor
namespace Px
theorem Rel.opened {l r:Int}{s:St} (J:mayB l r=true) (h:Bx.MayS (abs s)):Rel (openB l r s) ⟨l,r,Bx.intS (abs s),Bx.frame (Bx.wholeS (Bx.intS (abs s))),[]⟩:=by
 obtain⟨h1,h2,d,G⟩:=of_decide_eq_true J;have hm:Bx.MayS (abs (intP s)):=by rw[int_abs];exact h.int
 have Q:=whole_le hm;have O:=int_ok h;rw[←int_abs];refine⟨rfl,rfl,rfl,rfl,⟨List.Pairwise.nil,fun t I=>by simp at I,fun x e w=>?_⟩,O,h1,h2,d,G,by show (((Bx.frame (Bx.wholeS (abs (intP s)))).size:Nat):Int)≤r;omega⟩
 obtain⟨y,_,rfl⟩:=List.mem_map.1 e;exact absurd w (by show ¬(0:Int)<0;omega)
end Px
end Go.Proofs.YtdajolpoiffimabGreatDoor

namespace Go.Proofs.YtdajolpoiffimabGreatDoor
open Go.RowKit
theorem BoxIn.new2 (w:World) (l r:Int) (S:Bx.St) (x:ByteArray) (sl en:Value) (h:StAt w S sl en):BoxIn (w.alloc (bxO ⟨l,r,S,x,[]⟩ sl en nilV)) w.heap.size ⟨l,r,S,x,[]⟩ sl en nilV:=by
 refine⟨?_,?_,?_,?_,?_,?_,?_,?_,?_,fun j _=>?_,Typed.new _ _ _,h.later (dx _ _),World.ownsRow_nil _ _ _ _⟩
 all_goals simp[go_sem]
def OpD (l r:Int) (log:ByteArray) (w w':World) (e:Ending):Prop:=∃(S:Bx.St) (q:ByteArray) (n:Int) (D:Nat),e=.returned (.tuple #[.pointer (some ⟨D,0,none⟩),.int .i64 n,.int .i64 0])∧Bx.Says true Bx.first log S q∧n+(q.size:Int)=(log.size:Int)∧w.heap.size≤D∧(∃sl en,BoxIn w' D ⟨l,r,Bx.intS S,Bx.frame (Bx.wholeS (Bx.intS S)),[]⟩ sl en nilV)∧Below w.heap.size w w'
set_option maxRecDepth 10000 in
set_option maxHeartbeats 0 in
theorem pj (l r:Int) (log:ByteArray) (w:World) (h:mayB l r=true) (hl:log.size≤4000):Calls Tryz.prog 108 #[.int .i64 l,.int .i64 r,.string log] w fun e w'=>OpD l r log w w' e:=by
 have h4:¬(4000:Int)<(log.size:Int):=by omega
 go_enter Tryz.func108,Tryz.ntmps108
 go_wp2_with fail;refine (jg l r _).mono ?_;rintro e w1 ⟨rfl,au⟩;have aO:=au.symm;subst aO;clear au;rw[h];clear h;go_wp2_with fail;refine (nD log _ (by omega)).mono ?_
 rintro e w2 ⟨S,sl,en,q,n,rfl,hA,ah,hn,ao⟩;have HS:Hid (Bx.Says true Bx.first log S q∧n+(q.size:Int)=(log.size:Int)):=⟨ah,hn⟩
 have HM:Hid (Bx.MayS S):=Bx.says_may ah Bx.first_may;have a2:=HM.out.sl;obtain⟨ad,Z,rfl,aY⟩:=hA.sl.form;obtain⟨aa,O,rfl,aS⟩:=hA.en.form;have Y:=ao.trans ((dx w2 (stO S (.slice ad S.slots.length Z) (.slice aa S.ends.length O))).mono ao.size);have hI:=StIn.new w2 S (.slice ad S.slots.length Z) (.slice aa S.ends.length O);have ar:=hA.later (dx w2 (stO S (.slice ad S.slots.length Z) (.slice aa S.ends.length O)));clear ah hn hA ao;go_upto_region 7 with fail;have aL:StIn (w2.alloc (stO S (.slice ad S.slots.length Z) (.slice aa S.ends.length O))) w2.heap.size S (.slice ad S.slots.length Z) (.slice aa S.ends.length O):=hI;clear hI;generalize w2.alloc (stO S (.slice ad S.slots.length Z) (.slice aa S.ends.length O))=W at *;generalize w2.heap.size=xq at *;have HA:=Hq ar;have HB:=Hq Y;obtain⟨i0,i1,i2,i3,i4⟩:=aL;clear ar Y;go_wp2_with fail;refine (sp S _ _ _ (by omega) HA.out).mono ?_
 rintro e w3 ⟨⟨a5,rfl,V⟩,Y⟩;have hT:intS S=Bx.intS S:=rfl;rw[hT] at V ⊢;have ab:=Hq HM.out.int;have HO:Hid (∀T,T=Bx.intS S→(⟨l,r,T,Bx.frame (Bx.wholeS T),[]⟩:Bx.Bo)=⟨l,r,Bx.intS S,Bx.frame (Bx.wholeS (Bx.intS S)),[]⟩):=fun T e=>by rw[e]
 clear hT;obtain⟨T,ak⟩:∃T,T=Bx.intS S:=⟨_,rfl⟩;have aw:=HO.out T ak;have aK:=Hq aw;rw[←ak] at V ab ⊢;clear HO aw ak;obtain⟨J,d,rfl,aU⟩:=V.sl.form;obtain⟨I,G,aj,aT⟩:=V.en.form;rw[aj] at V ⊢;clear aj;have al:=HB.out.trans ((Y.trans ((dx w3 (stO T (.slice J T.slots.length d) (.slice I T.ends.length G))).mono Y.size)).mono HB.out.size);have ay:=StIn.new w3 T (.slice J T.slots.length d) (.slice I T.ends.length G);have ax:=V.later (dx w3 (stO T (.slice J T.slots.length d) (.slice I T.ends.length G)));clear i0 i1 i2 i3 i4 V Y HA HB;go_upto_region 8 with fail;have aH:StIn (w3.alloc (stO T (.slice J T.slots.length d) (.slice I T.ends.length G))) w3.heap.size T (.slice J T.slots.length d) (.slice I T.ends.length G):=ay;clear ay;generalize w3.alloc (stO T (.slice J T.slots.length d) (.slice I T.ends.length G))=Q at *;generalize w3.heap.size=yq at *;obtain⟨i0,i1,i2,i3,i4⟩:=aH;have a4:yq<Q.heap.size:=World.block_lt_of_cell? _ _ i0;have aM:=Hq al;have az:=Hq ax;have ae:=al.size;have CW:Hid (∀v:World,Below Q.heap.size Q v→Calls Tryz.prog 117 #[stV T (.slice J T.slots.length d) (.slice I T.ends.length G)] v fun e w'=>e=.returned (.string (Bx.wholeS T))∧Below Q.heap.size Q w'):=fun v hb=>(gT T _ _ v ab.out.fit (by have:=ab.out.sl;omega) ab.out.en (az.out.later hb)).mono fun _ _ h=>⟨h.1,hb.trans (h.2.mono hb.size)⟩
 have CF:Hid (∀v:World,Below Q.heap.size Q v→Calls Tryz.prog 116 #[.string (Bx.wholeS T)] v fun e w'=>e=.returned (.string (Bx.frame (Bx.wholeS T)))∧Below Q.heap.size Q w'):=fun v hb=>(ge (Bx.wholeS T) v (by have:=Bx.wholeS_size ab.out;omega)).mono fun _ _ h=>⟨h.1,hb.trans (h.2.mono hb.size)⟩
 have HX:Hid (∀(v:World) (x:ByteArray),Below Q.heap.size Q v→BoxIn (v.alloc (bxO ⟨l,r,T,x,[]⟩ (.slice J T.slots.length d) (.slice I T.ends.length G) nilV)) v.heap.size ⟨l,r,T,x,[]⟩ (.slice J T.slots.length d) (.slice I T.ends.length G) nilV):=fun v x hb=>BoxIn.new2 v l r T x _ _ (az.out.later hb)
 clear ax al;generalize Bx.frame (Bx.wholeS T)=fr at *;generalize Bx.wholeS T=wh at *;go_wp2_with fail
 go_region_held3 (fun w'=>∀b o,b<Q.heap.size→w'.cell? ⟨b,o,none⟩=Q.cell? ⟨b,o,none⟩)
  ((intro b' o' h1;first |(with_reducible exact (U.alloc U.size _).cell (p:=⟨b',o',none⟩) h1)|(with_reducible exact U.cell (p:=⟨b',o',none⟩) h1)|(with_reducible exact av.cell (p:=⟨b',o',none⟩) h1)|(with_reducible exact ((Below.refl _ _).drew).cell (p:=⟨b',o',none⟩) h1)|rfl))
  (first
   | (go_at_call 117;with_reducible refine (CW.out _ ?hb).mono ?_;(case hb=>first |exact (Below.refl _ _).drew|exact Below.refl _ _);rintro e v0 ⟨rfl,av⟩)
   | (go_at_call 116;with_reducible refine (CF.out _ ?hb).mono ?_;(case hb=>exact av);rintro e v1 ⟨rfl,U⟩))
 have HE:Hid (OpD l r log w (v1.alloc (bxO ⟨l,r,T,fr,[]⟩ (.slice J T.slots.length d) (.slice I T.ends.length G) nilV)) (.returned (.tuple #[.pointer (some ⟨v1.heap.size,0,none⟩),.int .i64 n,.int .i64 0]))):=
  ⟨S,q,n,v1.heap.size,rfl,HS.out.1,HS.out.2,Nat.le_trans ae U.size,⟨_,_,by rw[←aK.out];exact HX.out v1 fr U⟩,(aM.out.trans (U.mono ae)).alloc (Nat.le_trans ae U.size) _⟩
 go_wp2_with fail;refine bodyPost_ret (v:=.tuple #[.pointer (some ⟨v1.heap.size,0,none⟩),.int .i64 n,.int .i64 0]) (by simp[results,Tryz.results108]) rfl ?_
 exact HE.out
end Go.Proofs.YtdajolpoiffimabGreatDoor
