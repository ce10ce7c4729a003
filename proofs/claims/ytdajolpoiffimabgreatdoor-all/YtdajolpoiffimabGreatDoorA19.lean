import Derived.Deep.Cut
import Derived.Deep.RegionHeld3
import Derived.Deep.DrawnRows
import Derived.Deep.RegionWith
import Derived.Test.YtdajolpoiffimabGreatDoorA14

namespace Go.Proofs.YtdajolpoiffimabGreatDoor
open Go.RowKit
theorem eK (s:ByteArray) (I G:Nat→Nat) (t:Nat) (v:Int) (w:World) (x:Bool) (O:x=Txt.hldB (lo t) (hi t) v (pt s t)) (U:s.size≤300) (d:t<5) (J:LineP s) (hA:LineAt w s I G) (Y:0≤v) (Q:v≤60):
 Calls Tryz.prog 163 #[.agg #[.bool (Txt.opn (pt s t)),.slice (some ⟨I t,0,none⟩) (Txt.pcs 44 (pt s t)).length (G t)],.int .i64 v] w fun e V=>e=.returned (.bool x)∧Below w.heap.size w V:=
 O▸ji (pt s t) (lo t) (hi t) v _ (I t) (G t) w (J.sz U t d) (gg t).1 (gg t).2.2.2 Y Q (J.fl t d) (hA t d).2 (hA t d).1
set_option maxHeartbeats 0 in
theorem j8 (s:ByteArray) (Q U:Nat→Nat) (ae:Option Addr) (ns aa:Nat) (y m d h i k:Int) (w:World) (hs:s.size≤300) (hP:LineP s) (hA:LineAt w s Q U) (d1:0≤d) (d2:d≤60) (k1:0≤k) (k2:k≤60):
 Calls Tryz.prog 164 #[lineV s Q U (.slice ae ns aa),dateV y m d h i k] w fun e w'=>e=.returned (.bool (dayB s d k))∧Below w.heap.size w w':=by
 have HP:=Hq hP;have HA:Hid (∀o1 o2,LineAt ((w.alloc o1).alloc o2) s Q U):=fun o1 o2=>(hA.later (dx _ _)).later (dx _ _)
 obtain⟨x,hx⟩:∃x:Bool,x=Txt.hldB (lo 2) (hi 2) d (pt s 2):=⟨_,rfl⟩;obtain⟨z,hz⟩:∃z:Bool,z=Txt.hldB (lo 4) (hi 4) k (pt s 4):=⟨_,rfl⟩;have HX:=Hq hx;have HZ:=Hq hz;have O:Hid (dayB s d k=if (Txt.opn (pt s 2)||Txt.opn (pt s 4))=true then (x&&z) else (x||z)):=by unfold Hid;rw[dayB,hx,hz]
 clear hx hz;clear hP hA
 go_enter Tryz.func164,Tryz.ntmps164
 go_wp2_with fail;refine (eK s Q U 2 _ _ x HX.out hs (by decide) HP.out (HA.out _ _) d1 d2).mono ?_
 rintro e w1 ⟨rfl,G⟩;have ai:Hid (LineAt w1 s Q U):=(HA.out _ _).later G;have B1:Hid (Below w.heap.size w w1):=((dx w _).alloc (by simp) _).trans (G.mono (by simp;omega))
 obtain⟨aw,aq⟩:=dU G;have au:w.heap.size+1<w1.heap.size:=by have:=G.size;simp at this;omega
 have ax:w.heap.size<w1.heap.size:=by omega
 clear G HA;go_wp2_with fail;refine (eK s Q U 4 _ _ z HZ.out hs (by decide) HP.out ai.out k1 k2).mono ?_
 rintro e w2 ⟨rfl,Y⟩;have J:Hid (Below w.heap.size w w2):=B1.out.trans (Y.mono (by omega))
 obtain⟨ar,av⟩:=dU Y;clear Y;clear HX HZ;have I:∀r:Bool,r=dayB s d k→Hid (r=dayB s d k):=fun _ h=>h
 cases V:Txt.opn (pt s 2)
 ·cases Z:Txt.opn (pt s 4)
  ·have D:Hid ((x||z)=dayB s d k):=by unfold Hid;rw[O.out,V,Z];rfl
   clear O I
   cases x
   ·go_wp2_with fail;go_ret;exact⟨dz D.out,J.out⟩
   ·go_wp2_with fail;go_ret;exact⟨dz D.out,J.out⟩
  ·have D:Hid ((x&&z)=dayB s d k):=by unfold Hid;rw[O.out,V,Z];rfl
   clear O I
   cases x
   ·go_wp2_with fail;go_ret;exact⟨dz D.out,J.out⟩
   ·go_wp2_with fail;go_ret;exact⟨dz D.out,J.out⟩
 ·have D:Hid ((x&&z)=dayB s d k):=by unfold Hid;rw[O.out,V];rfl
  clear O I
  cases x
  ·go_wp2_with fail;go_ret;exact⟨dz D.out,J.out⟩
  ·go_wp2_with fail;go_ret;exact⟨dz D.out,J.out⟩
set_option maxHeartbeats 0 in
theorem rl (s:ByteArray) (O Q:Nat→Nat) (ac:Option Addr) (ns V:Nat) (y m d h i k:Int) (w:World) (hs:s.size≤300) (hP:LineP s) (hA:LineAt w s O Q) (m1:0≤m) (m2:m≤60) (d1:0≤d) (d2:d≤60) (h1:0≤h) (h2:h≤60) (i1:0≤i) (i2:i≤60) (k1:0≤k) (k2:k≤60):
 Calls Tryz.prog 124 #[lineV s O Q (.slice ac ns V),dateV y m d h i k] w fun e w'=>e=.returned (.bool (dueB s m d h i k))∧Below w.heap.size w w':=by
 have HP:=Hq hP;have HA:Hid (∀o1 o2,LineAt ((w.alloc o1).alloc o2) s O Q):=fun o1 o2=>(hA.later (dx _ _)).later (dx _ _)
 obtain⟨x,hx⟩:∃x:Bool,x=Txt.hldB (lo 0) (hi 0) i (pt s 0):=⟨_,rfl⟩;obtain⟨y',hy⟩:∃x:Bool,x=Txt.hldB (lo 1) (hi 1) h (pt s 1):=⟨_,rfl⟩;obtain⟨z,hz⟩:∃z:Bool,z=Txt.hldB (lo 3) (hi 3) m (pt s 3):=⟨_,rfl⟩;have HX:=Hq hx;have HY:=Hq hy;have HZ:=Hq hz;have J:Hid (dueB s m d h i k=(x&&(y'&&(z&&dayB s d k)))):=by unfold Hid;rw[dueB,hx,hy,hz]
 clear hP hA hx hy hz
 go_enter Tryz.func124,Tryz.ntmps124
 go_wp2_with fail;refine (eK s O Q 0 _ _ x HX.out hs (by decide) HP.out (HA.out _ _) i1 i2).mono ?_
 rintro e w1 ⟨rfl,G⟩;have Z:Hid (LineAt w1 s O Q):=(HA.out _ _).later G;have B1:Hid (Below w.heap.size w w1):=((dx w _).alloc (by simp) _).trans (G.mono (by simp;omega))
 obtain⟨aL,aE⟩:=dU G;have aI:w.heap.size+1<w1.heap.size:=by have:=G.size;simp at this;omega
 have aM:w.heap.size<w1.heap.size:=by omega
 clear G HA HX
 cases x
 ·have D:Hid (false=dueB s m d h i k):=by unfold Hid;rw[J.out];rfl
  clear J;go_wp2_with fail;go_ret;exact⟨dz D.out,B1.out⟩
 go_wp2_with fail;refine (eK s O Q 1 _ _ y' HY.out hs (by decide) HP.out Z.out h1 h2).mono ?_
 rintro e w2 ⟨rfl,U⟩;have Y:=Hq (Z.out.later U);have B2:Hid (Below w.heap.size w w2):=B1.out.trans (U.mono (by omega))
 obtain⟨aG,aJ⟩:=dU U;have aF:w.heap.size+1<w2.heap.size:=by have:=U.size;omega
 have ax:w.heap.size<w2.heap.size:=by omega
 clear U Z HY
 cases y'
 ·have D:Hid (false=dueB s m d h i k):=by unfold Hid;rw[J.out];rfl
  clear J;go_wp2_with fail;go_ret;exact⟨dz D.out,B2.out⟩
 go_wp2_with fail;refine (eK s O Q 3 _ _ z HZ.out hs (by decide) HP.out Y.out m1 m2).mono ?_
 rintro e w3 ⟨rfl,I⟩;have au:=Hq (Y.out.later I);have B3:Hid (Below w.heap.size w w3):=B2.out.trans (I.mono (by omega))
 obtain⟨aD,aH⟩:=dU I;have aK:w.heap.size+1<w3.heap.size:=by have:=I.size;omega
 clear I Y HZ
 cases z
 ·have D:Hid (false=dueB s m d h i k):=by unfold Hid;rw[J.out];rfl
  clear J;go_wp2_with fail;go_ret;exact⟨dz D.out,B3.out⟩
 have D:Hid (dayB s d k=dueB s m d h i k):=by unfold Hid;rw[J.out];rfl
 clear J;go_wp2_with fail;refine (j8 s O Q ac ns V y m d h i k _ hs HP.out au.out d1 d2 k1 k2).mono ?_;rintro e w4 ⟨rfl,ad⟩;have B4:Hid (Below w.heap.size w w4):=B3.out.trans (ad.mono (by omega))
 clear ad;go_wp2_with fail;go_ret;exact⟨dz D.out,B4.out⟩
attribute [local go_sem ↓] Go.wp_at_zero Go.wp_at_succ
set_option maxHeartbeats 0 in
theorem mm (s:ByteArray) (w:World) (G:s.size≤maxLen) (d:TabLH w):
 Calls Tryz.prog 43 #[.string s] w fun e Q=>(∃a r:Int,e=.returned (.tuple #[.int .i64 a,.int .i64 r])∧ChkR s a r)∧Below w.heap.size w Q:=by
 have O:=Hq d;have J:=Hq G;clear d G
 go_enter Tryz.func43,Tryz.ntmps43
 go_wp2_with fail;refine (gA _ _ J.out O.out).mono ?_;rintro e w1 ⟨⟨a,r,U,n,c,rfl,I,hL⟩,hb⟩;have K:=Hq I;clear hL I;go_wp2_with fail
 go_quiet (fail)
 go_wp2_with fail;go_ret2;exact⟨⟨a,r,rfl,K.out⟩,below_drewN (hb.alloc hb.size _) _⟩
end Go.Proofs.YtdajolpoiffimabGreatDoor

namespace Go.Proofs.YtdajolpoiffimabGreatDoor
open Go.RowKit
set_option maxHeartbeats 0 in
theorem mN (s:Px.St) (m:Int) (sl en:Value) (w:World) (c1: -1≤s.clock) (c2:s.clock≤4223371679) (m1:0≤m) (m2:m≤4223371679) (hS:PAt w s sl en):
 Calls Tryz.prog 85 #[pstV s sl en,.int .i64 m] w fun e Q=>e=.returned (.bool (Px.aheadP s m))∧Below w.heap.size w Q:=by
 obtain⟨Z,U,rfl,O⟩:=hS.sl.form;obtain⟨V,J,rfl,I⟩:=hS.en.form;clear hS
 by_cases h1:m≤s.clock
 ·have d:Hid (Px.aheadP s m=false):=decide_eq_false (by omega)
  go_enter Tryz.func85,Tryz.ntmps85
  go_wp2_with fail;go_ret;exact⟨dz d.out.symm,dx _ _⟩
 by_cases h2:s.clock= -1
 ·have d:Hid (Px.aheadP s m=true):=decide_eq_true (by omega)
  have G:(s.clock== -1)=true:=by simpa using h2
  clear h2
  go_enter Tryz.func85,Tryz.ntmps85
  go_wp2_with fail;go_ret;exact⟨dz d.out.symm,dx _ _⟩
 have G:(s.clock== -1)=false:=by simpa using h2
 by_cases Y:m-s.clock≤1500
 ·have d:Hid (Px.aheadP s m=true):=decide_eq_true (by omega)
  clear h2
  go_enter Tryz.func85,Tryz.ntmps85
  go_wp2_with fail;go_ret;exact⟨dz d.out.symm,dx _ _⟩
 ·have d:Hid (Px.aheadP s m=false):=decide_eq_false (by omega)
  clear h2
  go_enter Tryz.func85,Tryz.ntmps85
  go_wp2_with fail;go_ret;exact⟨dz d.out.symm,dx _ _⟩
set_option maxHeartbeats 0 in
theorem kA (s:Px.St) (m:Int) (sl en:Value) (w:World) (c1: -1≤s.clock) (c2:s.clock≤4223371679) (hS:PAt w s sl en):
 Calls Tryz.prog 87 #[pstV s sl en,.int .i64 m] w fun e Q=>e=.returned (.int .i64 (Px.newA s m))∧Below w.heap.size w Q:=by
 obtain⟨Y,U,rfl,O⟩:=hS.sl.form;obtain⟨V,J,rfl,I⟩:=hS.en.form;clear hS
 by_cases h2:s.clock= -1
 ·have d:Hid (Px.newA s m=m):=if_pos h2;have G:(s.clock== -1)=true:=by simpa using h2
  clear h2
  go_enter Tryz.func87,Tryz.ntmps87
  go_wp2_with fail;go_ret;exact⟨dS d.out.symm,dx _ _⟩
 ·have d:Hid (Px.newA s m=s.clock+1):=if_neg h2;have G:(s.clock== -1)=false:=by simpa using h2
  clear h2
  go_enter Tryz.func87,Tryz.ntmps87
  go_wp2_with fail;go_ret;exact⟨dS d.out.symm,dx _ _⟩
set_option maxHeartbeats 0 in
theorem lI (l:ByteArray) (U O:Nat→Nat) (J:Option Addr) (Q I:Nat) (now later:Bool) (w:World):
 Calls Tryz.prog 125 #[lineV l U O (.slice J Q I),.bool now,.bool later] w fun e V=>e=.returned (.bool (Px.cntB (obt (pt l 5) 1) now later))∧Below w.heap.size w V:=by
 have d:Hid (∀c,Px.cntB c now later=if c=108 then !later else if c=110 then now else true):=fun _=>rfl
 cases h1:(obt (pt l 5) 1==108)
 ·have n1:¬obt (pt l 5) 1=108:=by simpa using h1
  cases h2:(obt (pt l 5) 1==110)
  ·have n2:¬obt (pt l 5) 1=110:=by simpa using h2
   have G:Hid (Px.cntB (obt (pt l 5) 1) now later=true):=by unfold Hid;rw[d.out,if_neg n1,if_neg n2]
   clear n1 n2 d
   go_enter Tryz.func125,Tryz.ntmps125
   go_wp2_with fail;go_ret;exact⟨dz G.out.symm,dx _ _⟩
  ·have n2:obt (pt l 5) 1=110:=by simpa using h2
   have G:Hid (Px.cntB (obt (pt l 5) 1) now later=now):=by unfold Hid;rw[d.out,if_neg n1,if_pos n2]
   clear n1 n2 d
   go_enter Tryz.func125,Tryz.ntmps125
   go_wp2_with fail;go_ret;exact⟨dz G.out.symm,dx _ _⟩
 ·have n1:obt (pt l 5) 1=108:=by simpa using h1
  have G:Hid (Px.cntB (obt (pt l 5) 1) now later= !later):=by unfold Hid;rw[d.out,if_pos n1]
  clear n1 d
  go_enter Tryz.func125,Tryz.ntmps125
  go_wp2_with fail;go_ret;exact⟨dz G.out.symm,dx _ _⟩
def arC (p:Nat×Int):List Value:=[.int .i64 ((p.1:Int)+1),.int .i64 p.2]
theorem lR (p:Nat×Int):(arC p).length=2:=rfl
theorem rG (p:Nat×Int):∀u∈arC p,u.oneCell'=true:=by intro u d;simp[arC] at d;rcases d with rfl|rfl<;>rfl
theorem su:(Tryz.prog.info? 141).map (fun i=>(i.zero,i.size,i.bytes))=some (some (.agg #[.int .i64 0,.int .i64 0]),2,16):=by kernel_rfl
def MetAt (w:World) (M:Nat) (f:Nat→Bool):Prop:=w.heap[M]? =some (.cells #[.bool (f 0),.bool (f 1),.bool (f 2),.bool (f 3)] 192 (0,0))
theorem MetAt.lt {w:World}{M:Nat}{f:Nat→Bool} (h:MetAt w M f):M<w.heap.size:=eM h
theorem MetAt.cell {w:World}{M:Nat}{f:Nat→Bool} (h:MetAt w M f) (i:Nat) (hi:i<4):w.cell? ⟨M,i,none⟩=some (.bool (f i))∧w.frozen? ⟨M,i,none⟩=false:=by
 constructor
 ·rw[cell_of_row _ _ i _ _ (0,0) h]
  match i,hi with
  | 0,_=>rfl
  | 1,_=>rfl
  | 2,_=>rfl
  | 3,_=>rfl
 ·unfold World.frozen?;rw[h];simp
theorem MetAt.later {w d:World}{M:Nat}{f:Nat→Bool} (h:MetAt w M f) (hb:Below w.heap.size w d):MetAt d M f:=(hb.block M h.lt).trans h
theorem MetAt.grown {w I:World}{M G size n:Nat}{f:Nat→Bool}{v:Value}{J:List Value} (h:MetAt w M f) (O:w.ownsRow G 141 size v n J) (Q:w.grownBy I v.ownBlock):MetAt I M f:=by
 refine (Q.block M h.lt ?_).trans h;intro e
 rcases O.2 with ⟨rfl,_⟩|⟨g,U,cur,rfl,_,d,_⟩
 ·cases e
 ·have:M=g:=by simpa [Value.ownBlock] using e
  subst this;rw[h] at d;cases d
theorem MetAt.set {w:World}{M:Nat}{f:Nat→Bool} (h:MetAt w M f) (i:Nat) (hi:i<4) (b:Bool):MetAt (w.setCell ⟨M,i,none⟩ (.bool b)) M (fun j=>if j=i then b else f j):=by
 unfold MetAt at h ⊢
 have:(w.setCell ⟨M,i,none⟩ (.bool b)).heap[M]? =some (.cells (#[.bool (f 0),.bool (f 1),.bool (f 2),.bool (f 3)].setIfInBounds i (.bool b)) 192 (0,0)):=by
  simp[World.setCell,Array.getElem?_modify,h]
 rw[this]
 match i,hi with
 | 0,_=>rfl
 | 1,_=>rfl
 | 2,_=>rfl
 | 3,_=>rfl
theorem MetAt.new (w:World):MetAt (w.alloc (.cells #[.bool false,.bool false,.bool false,.bool false] 192)) w.heap.size (fun _=>false):=by
 unfold MetAt;show (w.heap.push _)[w.heap.size]? =_;simp
end Go.Proofs.YtdajolpoiffimabGreatDoor

namespace Go.Proofs.YtdajolpoiffimabGreatDoor
open Go.RowKit
def BlkAt (w:World) (q:Nat) (cs:Array Value) (e:TypeId):Prop:=w.heap[q]? =some (.cells cs e (0,0))
theorem BlkAt.lt {w:World}{q:Nat}{d:Array Value}{e:TypeId} (h:BlkAt w q d e):q<w.heap.size:=eM h
theorem BlkAt.new (w:World) (d:Array Value) (e:TypeId):BlkAt (w.alloc (.cells d e)) w.heap.size d e:=by unfold BlkAt;show (w.heap.push _)[w.heap.size]? =_;simp
theorem BlkAt.later {w d:World}{q:Nat}{G:Array Value}{e:TypeId} (h:BlkAt w q G e) (hb:Below w.heap.size w d):BlkAt d q G e:=(hb.block q h.lt).trans h
theorem BlkAt.cell {w:World}{q:Nat}{d:Array Value}{e:TypeId} (h:BlkAt w q d e) (i:Nat) (hi:i<d.size):w.cell? ⟨q,i,none⟩=some d[i]:=by
 rw[cell_of_row _ _ i _ _ (0,0) h];simp[hi]
theorem BlkAt.grown {w Q:World}{q G size n:Nat}{J:Array Value}{e O:TypeId}{v:Value}{Y:List Value} (h:BlkAt w q J e) (Z:w.ownsRow G O size v n Y) (V:w.grownBy Q v.ownBlock) (U:e≠O):BlkAt Q q J e:=by
 refine (V.block q h.lt ?_).trans h;intro I
 rcases Z.2 with ⟨rfl,_⟩|⟨g,aa,cur,rfl,_,d,_⟩
 ·cases I
 ·have:q=g:=by simpa [Value.ownBlock] using I
  subst this;rw[h] at d;cases d;exact U rfl
theorem BlkAt.other {w:World}{q M:Nat}{d:Array Value}{e:TypeId} (h:BlkAt w q d e) (G:q≠M) (j:Nat) (u:Value):BlkAt (w.setCell ⟨M,j,none⟩ u) q d e:=(Below.heap_setCell _ _ _ _ G).trans h
theorem oF {w:World}{M d size n:Nat}{e:TypeId}{f:Nat→Bool}{v:Value}{I:List Value} (O:w.ownsRow d e size v n I) (h:MetAt w M f) (U:e≠192) (j:Nat) (u:Value):(w.setCell ⟨M,j,none⟩ u).ownsRow d e size v n I:=by
 refine⟨O.1,?_⟩
 rcases O.2 with h2|⟨g,G,cur,Z,hbase,Q,V⟩
 ·exact Or.inl h2
 ·refine Or.inr ⟨g,G,cur,Z,hbase,?_,V⟩
  have J:g≠M:=by
   intro Y;subst Y;unfold MetAt at h;rw[Q] at h;cases h;exact U rfl
  exact (Below.heap_setCell _ _ _ _ J).trans Q
structure LfIn (w wr:World) (v:Value) (out:List (Nat×Int)) (f:Nat→Bool):Prop where
 own:wr.ownsRow w.heap.size 141 2 v out.length (out.reverse.flatMap arC)
 met:MetAt wr (w.heap.size+1) f
 bel:Below w.heap.size w wr
theorem LfIn.later {w wr d:World}{v:Value}{out:List (Nat×Int)}{f:Nat→Bool} (h:LfIn w wr v out f) (hb:Below wr.heap.size wr d):LfIn w d v out f:=
 ⟨dV h.own hb,h.met.later hb,h.bel.trans (hb.mono h.bel.size)⟩
theorem LfIn.start (w:World):LfIn w ((w.alloc (.cells #[] 141)).alloc (.cells #[.bool false,.bool false,.bool false,.bool false] 192)) (.slice (some ⟨w.heap.size,0,none⟩) 0 0) [] (fun _=>false):=by
 have h:=MetAt.new (w.alloc (.cells #[] 141));exact⟨(et w 141 2).alloc _,by simpa using h,(dx w _).alloc (by simp) _⟩
theorem LfIn.met' {w wr:World}{v:Value}{out:List (Nat×Int)}{f:Nat→Bool} (h:LfIn w wr v out f) (i:Nat) (hi:i<4):LfIn w (wr.setCell ⟨w.heap.size+1,i,none⟩ (.bool true)) v out (fun j=>if j=i then true else f j):=
 ⟨oF h.own h.met (by decide) _ _,h.met.set i hi true,h.bel.setCell (by simp) _⟩
theorem LfIn.app {w wr d:World}{v I:Value}{out:List (Nat×Int)}{p:Nat×Int}{f:Nat→Bool} (h:LfIn w wr v out f) (G:wr.grownBy d v.ownBlock) (J:d.ownsRow w.heap.size 141 2 I (out.length+1) (out.reverse.flatMap arC++arC p)):LfIn w d I (p::out) f:=
 ⟨by simpa [List.flatMap_append] using J,h.met.grown h.own G,h.bel.grown G h.bel.size (fun k e=>(h.own.lt k e).1)⟩
theorem rn (w:World) (i:Nat) (t:Int) (e:TypeId):∀j u,(arC (i,t))[j]? =some u→(w.alloc (.cells #[.int .i64 ((i:Int)+1),.int .i64 t] e)).cell? ((⟨w.heap.size,0,none⟩:Addr).add j)=some u:=by
 intro j u d
 match j,d with
 | 0,d=>simp[arC] at d;subst d;simp[Addr.add,go_sem]
 | 1,d=>simp[arC] at d;subst d;simp[Addr.add,go_sem]
theorem jy (tab:ByteArray):(Bx.lns tab).length=tn tab:=by unfold Bx.lns;rw[List.length_map,Bx.linesOf_len]
theorem sY (tab:ByteArray) (k:Nat) (h:k<(Bx.lns tab).length):(Bx.lns tab)[k]=lnOf (tl tab k):=by
 have d:k<(Bx.linesOf tab).length:=by rw[jy] at h;rw[Bx.linesOf_len];exact h
 show ((Bx.linesOf tab).map lnOf)[k]'(by simpa using d)=_
 rw[List.getElem_map,Bx.linesOf_at tab k d]
theorem tC (s:ByteArray) (O J:Nat→Nat) (I:Option Addr) (Q G:Nat) (y m d h i k:Int) (w:World) (x:Bool) (U:x=dueB s m d h i k) (V:s.size≤300) (Z:LineP s) (hA:LineAt w s O J) (m1:0≤m) (m2:m≤60) (d1:0≤d) (d2:d≤60) (h1:0≤h) (h2:h≤60) (i1:0≤i) (Y:i≤60) (k1:0≤k) (k2:k≤60):
 Calls Tryz.prog 124 #[lineV s O J (.slice I Q G),dateV y m d h i k] w fun e w'=>e=.returned (.bool x)∧Below w.heap.size w w':=
 U▸rl s O J I Q G y m d h i k w V Z hA m1 m2 d1 d2 h1 h2 i1 Y k1 k2
theorem qA (l:ByteArray) (O I:Nat→Nat) (G:Option Addr) (J d:Nat) (now later:Bool) (w:World) (z:Bool) (Q:z=Px.cntB (obt (pt l 5) 1) now later):
 Calls Tryz.prog 125 #[lineV l O I (.slice G J d),.bool now,.bool later] w fun e U=>e=.returned (.bool z)∧Below w.heap.size w U:=Q▸lI l O I G J d now later w
set_option maxRecDepth 10000 in
set_option maxHeartbeats 0 in
theorem iY (tab:ByteArray) (g c:Nat) (a m:Int) (w:World) (hC:ChkR tab 0 0) (a0:0≤a) (ha:a≤m) (hm:m≤4223371679) (hj:m-a≤1500) (hM:Tab w) (hL:PLinesAt w g tab):
 Calls Tryz.prog 88 #[.slice (some ⟨g,0,none⟩) (tn tab) c,.int .i64 a,.int .i64 m] w fun e w'=>(∃v,e=.returned v∧w'.ownsRow w.heap.size 141 2 v (Bx.comes (Bx.lns tab) a m).length ((Bx.comes (Bx.lns tab) a m).reverse.flatMap arC))∧Below w.heap.size w w':=by
 obtain⟨i0,bx,bU,bK,bG⟩:=info_parts su;have HM:=Hq hM;have HL:=Hq hL;have h4:=gJ hC;obtain⟨bR,_,hP⟩:=hC.lines;have HP:=Hq hP;have aY:=jy tab;have ab:=Hq aY;have H0:Hid (LfIn w _ _ [] (fun _=>false)):=LfIn.start w
 clear hM hL hC hP aY
 go_enter Tryz.func88,Tryz.ntmps88
 go_wp2_with fail
 go_loopw [7,9] (fun v x wr=>∃(t:Int) (out:List (Nat×Int)) (f:Nat→Bool),a-1≤t∧t≤m∧x=.int .i64 t∧Px.From (Bx.lns tab) m t (tn tab) out∧(out.length:Int)≤(m-t)*4∧(∀i (h:i<(Bx.lns tab).length),f i=Px.metB (Bx.lns tab)[i] m t)∧LfIn w wr v out f) (fun _ x _=>(intOf x+1-a).toNat)
 case atStart=>exact⟨m,[],_,by omega,Int.le_refl _,rfl,by rw[←ab.out];exact Px.From.start _ _,by simp,fun i h=>(Px.met_start _ _).symm,H0.out⟩
 case round=>
  clear H0;obtain⟨t,out,f,t1,t2,rfl,bq,cr,aU,HI⟩:=hrel;have az:=Hq bq;have ay:=Hq aU;clear bq aU
  by_cases cn:a≤t
  ·have bg:=Hq (HM.out.later HI.bel);go_wp2_with fail;refine (nU _ _ bg.out (by omega) (by omega)).mono ?_
   rintro e w2 ⟨⟨y,mo,d,HD,rfl⟩,aP⟩;have bB:Hid (∀s,dueB s mo d (t % 1440 / 60) (t % 60) ((t / 1440+4) % 7)=dueT s t):=fun s=>lT HD
   have bm:0≤mo∧mo≤60:=by have:=HD.m1;have:=HD.m2;omega
   have bd:0≤d∧d≤60:=by have:=HD.d1;have:=HD.d2;have:=Cal.dim_lo y mo;omega
   have bj:=(HI.later aP).later (dx w2 (.cells #[.int .i64 y,.int .i64 mo,.int .i64 d,.int .i64 (t % 1440 / 60),.int .i64 (t % 60),.int .i64 ((t / 1440+4) % 7)] 194));have bo:=BlkAt.new w2 #[.int .i64 y,.int .i64 mo,.int .i64 d,.int .i64 (t % 1440 / 60),.int .i64 (t % 60),.int .i64 ((t / 1440+4) % 7)] 194;have cq:w.heap.size+1<w2.heap.size:=Nat.lt_of_lt_of_le HI.met.lt aP.size;clear HI aP HD bg;go_upto_region 7 with fail;generalize w2.alloc (.cells #[.int .i64 y,.int .i64 mo,.int .i64 d,.int .i64 (t % 1440 / 60),.int .i64 (t % 60),.int .i64 ((t / 1440+4) % 7)] 194)=W3 at *;generalize w2.heap.size=dq at *;have aV:=Hq bj;have bn:=Hq bo;clear bj bo;go_wp2_with fail
   go_loopw [7,12] (fun v x bh=>∃(i:Int) (G:List (Nat×Int)) (f2:Nat→Bool),-1≤i∧i<(tn tab:Int)∧x=.int .i64 i∧Px.From (Bx.lns tab) m t (i+1).toNat G∧(G.length:Int)≤(m-t)*4+((tn tab:Int)-1-i)∧(∀k (h:k<(Bx.lns tab).length),f2 k=if i<(k:Int) then Px.metB (Bx.lns tab)[k] m (t-1) else Px.metB (Bx.lns tab)[k] m t)∧LfIn w bh v G f2∧BlkAt bh dq #[.int .i64 y,.int .i64 mo,.int .i64 d,.int .i64 (t % 1440 / 60),.int .i64 (t % 60),.int .i64 ((t / 1440+4) % 7)] 194) (fun _ x _=>(intOf x+1).toNat)
   case atStart=>
    refine⟨(tn tab:Int)-1,out,f,by omega,by omega,by go_num,?_,by omega,fun k h=>?_,aV.out,bn.out⟩
    ·have:((tn tab:Int)-1+1).toNat=tn tab:=by omega
     rw[this];exact az.out
    ·have:=ab.out;rw[if_neg (by omega)];exact ay.out k h
   case round=>
    clear az ay aV bn;obtain⟨i,G,f2,i1,i2,rfl,a3,cm,aC,J,aS⟩:=hrel;have ac:=Hq a3;have U:=Hq aC;have Q:=Hq aS;clear a3 aC aS
    by_cases cp:0≤i
    ·obtain⟨k,rfl⟩:∃k:Nat,i=(k:Int):=⟨i.toNat,by omega⟩
     have hk:k<tn tab:=by omega
     have ao:k<4:=by omega
     have Y:Hid (k<(Bx.lns tab).length):=by have:=ab.out;unfold Hid;omega
     obtain⟨bb,cc,sv,O,hla,bs⟩:=HL.out k hk
     obtain⟨aR,av,bP⟩:∃ad aX,sv=.slice ad (stps (tl tab k)).length aX:=by
      obtain⟨ad,aX,e,_⟩:=TRow.form bs;exact⟨ad,aX,e⟩
     subst bP;have L0:wr.cell? ⟨g,k*14,none⟩=some (.bool (Txt.opn (pt (tl tab k) 0))):=cell_later J.bel ((O 0 (by decide)).trans rfl)
     have L1:wr.cell? ⟨g,k*14+1,none⟩=some (.slice (some ⟨bb 0,0,none⟩) (Txt.pcs 44 (pt (tl tab k) 0)).length (cc 0)):=cell_later J.bel ((O 1 (by decide)).trans rfl)
     have L2:wr.cell? ⟨g,k*14+2,none⟩=some (.bool (Txt.opn (pt (tl tab k) 1))):=cell_later J.bel ((O 2 (by decide)).trans rfl)
     have L3:wr.cell? ⟨g,k*14+3,none⟩=some (.slice (some ⟨bb 1,0,none⟩) (Txt.pcs 44 (pt (tl tab k) 1)).length (cc 1)):=cell_later J.bel ((O 3 (by decide)).trans rfl)
     have L4:wr.cell? ⟨g,k*14+4,none⟩=some (.bool (Txt.opn (pt (tl tab k) 2))):=cell_later J.bel ((O 4 (by decide)).trans rfl)
     have L5:wr.cell? ⟨g,k*14+5,none⟩=some (.slice (some ⟨bb 2,0,none⟩) (Txt.pcs 44 (pt (tl tab k) 2)).length (cc 2)):=cell_later J.bel ((O 5 (by decide)).trans rfl)
     have L6:wr.cell? ⟨g,k*14+6,none⟩=some (.bool (Txt.opn (pt (tl tab k) 3))):=cell_later J.bel ((O 6 (by decide)).trans rfl)
     have L7:wr.cell? ⟨g,k*14+7,none⟩=some (.slice (some ⟨bb 3,0,none⟩) (Txt.pcs 44 (pt (tl tab k) 3)).length (cc 3)):=cell_later J.bel ((O 7 (by decide)).trans rfl)
     have L8:wr.cell? ⟨g,k*14+8,none⟩=some (.bool (Txt.opn (pt (tl tab k) 4))):=cell_later J.bel ((O 8 (by decide)).trans rfl)
     have L9:wr.cell? ⟨g,k*14+9,none⟩=some (.slice (some ⟨bb 4,0,none⟩) (Txt.pcs 44 (pt (tl tab k) 4)).length (cc 4)):=cell_later J.bel ((O 9 (by decide)).trans rfl)
     have aF:wr.cell? ⟨g,k*14+10,none⟩=some (.bool (obt (pt (tl tab k) 5) 0==120)):=cell_later J.bel ((O 10 (by decide)).trans rfl)
     have aA:wr.cell? ⟨g,k*14+11,none⟩=some (.int .u8 (obt (pt (tl tab k) 5) 1)):=cell_later J.bel ((O 11 (by decide)).trans rfl)
     have aJ:wr.cell? ⟨g,k*14+12,none⟩=some (.int .i64 (obt (pt (tl tab k) 5) 2-48)):=cell_later J.bel ((O 12 (by decide)).trans rfl)
     have aH:wr.cell? ⟨g,k*14+13,none⟩=some (.slice aR (stps (tl tab k)).length av):=cell_later J.bel ((O 13 (by decide)).trans rfl)
     have bp:=Hq (hla.later J.bel);have D0:wr.cell? ⟨dq,0,none⟩=some (.int .i64 y):=Q.out.cell 0 (show 0<6 by decide)
     have D1:wr.cell? ⟨dq,1,none⟩=some (.int .i64 mo):=Q.out.cell 1 (show 1<6 by decide)
     have D2:wr.cell? ⟨dq,2,none⟩=some (.int .i64 d):=Q.out.cell 2 (show 2<6 by decide)
     have D3:wr.cell? ⟨dq,3,none⟩=some (.int .i64 (t % 1440 / 60)):=Q.out.cell 3 (show 3<6 by decide)
     have D4:wr.cell? ⟨dq,4,none⟩=some (.int .i64 (t % 60)):=Q.out.cell 4 (show 4<6 by decide)
     have D5:wr.cell? ⟨dq,5,none⟩=some (.int .i64 ((t / 1440+4) % 7)):=Q.out.cell 5 (show 5<6 by decide)
     have cs:g<wr.heap.size:=World.block_lt_of_cell? _ _ L0;have co:dq<wr.heap.size:=Q.out.lt;have b2:Hid ((tl tab k).size≤300):=fG bR k (by have:=eQ tab;omega)
     have b0:(0:Int)≤(k:Int):=by omega
     have b1:(k:Int)<(tn tab:Int):=by omega
     have b5:(k:Int)<4:=by omega
     have b4:decide ((4:Int)≤(k:Int))=false:=decide_eq_false (by omega)
     have aE:Hid ((Bx.lns tab)[k]'Y.out=lnOf (tl tab k)):=sY tab k Y.out;obtain⟨x,hx⟩:∃x:Bool,x=dueB (tl tab k) mo d (t % 1440 / 60) (t % 60) ((t / 1440+4) % 7):=⟨_,rfl⟩;have HX:=Hq hx;have ah:Hid (((Bx.lns tab)[k]'Y.out).due t=x):=by unfold Hid;rw[aE.out,hx,bB.out];rfl
     have aq:=Hq J;clear O hla bs hx J;go_wp2_with fail
     go_region_held3 (fun w'=>∀b o,b<wr.heap.size→w'.cell? ⟨b,o,none⟩=wr.cell? ⟨b,o,none⟩)
      ((intro b' o' h1;first |(exact I.cell (p:=⟨b',o',none⟩) h1)|rfl))
      ((go_at_call 124;refine (tC (tl tab k) bb cc aR (stps (tl tab k)).length av _ _ _ _ _ _ _ x HX.out b2.out (HP.out k hk) ?hla bm.1 bm.2 bd.1 bd.2 (by omega) (by omega) (by omega) (by omega) (by omega) (by omega)).mono ?_;(case hla=>exact bp.out.later (Below.refl _ _).drew);rintro e w4 ⟨rfl,aW⟩;have I:Below wr.heap.size wr w4:=(Below.refl _ _).drew.trans aW))
     rename ∀(b o:Nat),b<wr.heap.size→w4.cell? ⟨b,o,none⟩=wr.cell? ⟨b,o,none⟩=>hSold
     clear hSold;have al:=aq.out.later I;have ax:=Q.out.later I
     have af:Hid (Px.From (Bx.lns tab) m t (k+1) G):=by
      have:=ac.out;rw[show ((k:Int)+1).toNat=k+1 by omega] at this;exact this
     have aB:Hid (f2 k=Px.metB ((Bx.lns tab)[k]'Y.out) m t):=by unfold Hid;rw[U.out k Y.out,if_neg (by omega)]
     have aT:((k:Int)-1+1).toNat=k:=by omega
     cases x
     ·have Z:Hid (Px.From (Bx.lns tab) m t ((k:Int)-1+1).toNat G):=by unfold Hid;rw[aT];exact af.out.no Y.out (Px.cnt_due ah.out)
      have V:Hid (∀j (h:j<(Bx.lns tab).length),f2 j=if (k:Int)-1<(j:Int) then Px.metB (Bx.lns tab)[j] m (t-1) else Px.metB (Bx.lns tab)[j] m t):=by
       intro j h
       by_cases q:j=k
       ·subst q;rw[if_pos (by omega),aB.out,Px.met_no ah.out]
       ·rw[U.out j h]
        by_cases q':(k:Int)<(j:Int)
        ·rw[if_pos q',if_pos (by omega)]
        ·rw[if_neg q',if_neg (by omega)]
      clear L0 L1 L2 L3 L4 L5 L6 L7 L8 L9 aF aA aJ aH D0 D1 D2 D3 D4 D5 aW I aq Q ac U af aB ah aE;go_wp2_with fail;go_roundw
      case rel=>exact⟨(k:Int)-1,G,f2,by omega,by omega,by go_num,Z.out,by omega,V.out,al,ax⟩
      case measure=>simp[intOf]
     ·have V:Hid (∀j (h:j<(Bx.lns tab).length),(if j=k then true else f2 j)=if (k:Int)-1<(j:Int) then Px.metB (Bx.lns tab)[j] m (t-1) else Px.metB (Bx.lns tab)[j] m t):=by
       intro j h
       by_cases q:j=k
       ·subst q;rw[if_pos rfl,if_pos (by omega),Px.met_yes ah.out t2]
       ·rw[if_neg q,U.out j h]
        by_cases q':(k:Int)<(j:Int)
        ·rw[if_pos q',if_pos (by omega)]
        ·rw[if_neg q',if_neg (by omega)]
      obtain⟨z,hz⟩:∃z:Bool,z=Px.cntB (obt (pt (tl tab k) 5) 1) (t==m) (f2 k):=⟨_,rfl⟩;have HZ:=Hq hz
      have aD:Hid (z=true↔Bx.Cnt ((Bx.lns tab)[k]'Y.out) m t):=by
       have:=Px.cnt_iff (m:=m) ah.out;unfold Hid;rw[←this,hz,aB.out];have e:((Bx.lns tab)[k]'Y.out).catch'=obt (pt (tl tab k) 5) 1:=by rw[aE.out];rfl
       rw[e]
      replace L0:=cell_later I L0;replace L1:=cell_later I L1;replace L2:=cell_later I L2;replace L3:=cell_later I L3;replace L4:=cell_later I L4;replace L5:=cell_later I L5;replace L6:=cell_later I L6;replace L7:=cell_later I L7;replace L8:=cell_later I L8;replace L9:=cell_later I L9;replace aF:=cell_later I aF;replace aA:=cell_later I aA;replace aJ:=cell_later I aJ;replace aH:=cell_later I aH;obtain⟨mc,mf⟩:=al.met.cell k ao;have cf:g<w4.heap.size:=World.block_lt_of_cell? _ _ L0;have cg:w.heap.size+1<w4.heap.size:=al.met.lt;have aZ:=Hq al;have aG:=Hq ax;clear D0 D1 D2 D3 D4 D5 aW I aq Q ac U aB ah aE hz al ax HX bp;go_wp2_with fail
      go_region_held3 (fun w'=>∀b o,b<w4.heap.size→w'.cell? ⟨b,o,none⟩=w4.cell? ⟨b,o,none⟩)
       ((intro b' o' h1;first |(exact aK.cell (p:=⟨b',o',none⟩) h1)|rfl))
       ((go_at_call 125;refine (qA (tl tab k) bb cc aR (stps (tl tab k)).length av (t==m) (f2 k) _ z HZ.out).mono ?_;rintro e w5 ⟨rfl,br⟩;have aK:Below w4.heap.size w4 w5:=(Below.refl _ _).drew.trans br))
      rename ∀(b o:Nat),b<w4.heap.size→w5.cell? ⟨b,o,none⟩=w4.cell? ⟨b,o,none⟩=>hSold
      clear hSold;have aa:=aZ.out.later aK;have ak:=aG.out.later aK;clear L0 L1 L2 L3 L4 L5 L6 L7 L8 L9 aF aA aJ aH mc mf br aK aZ aG HZ
      cases z
      ·have Z:Hid (Px.From (Bx.lns tab) m t ((k:Int)-1+1).toNat G):=by unfold Hid;rw[aT];exact af.out.no Y.out (fun h=>by have:=aD.out.2 h;cases this)
       obtain⟨mc,mf⟩:=aa.met.cell k ao;have b6:w.heap.size+1<w5.heap.size:=aa.met.lt;have ag:=aa.met' k ao;have ai:=ak.other (M:=w.heap.size+1) (by omega) k (.bool true)
       clear aa ak af aD;go_wp2_with fail;go_roundw
       case rel=>exact⟨(k:Int)-1,G,_,by omega,by omega,by go_num,Z.out,by omega,V.out,ag,ai⟩
       case measure=>first |(simp[intOf];done)|(simp[intOf];omega)
      ·have Z:Hid (Px.From (Bx.lns tab) m t ((k:Int)-1+1).toNat ((k,t)::G)):=by unfold Hid;rw[aT];exact af.out.yes Y.out t2 (aD.out.1 rfl)
       have aQ:Hid (w5.ownsRow w.heap.size 141 2 _ G.length (G.reverse.flatMap arC)):=aa.own;have bN:Hid (w.heap.size≤w5.heap.size):=aa.bel.size;have cb:G.length≤10000:=by omega
       go_wp2_with (at_builtin;refine wpList_append_lies _ rfl (.tmp 58) (.tmp 63) 137 rfl w.heap.size 141 i0 (.agg #[.int .i64 0,.int .i64 0]) 2 16 Tryz.underlying137 bx bU bK bG rfl (by decide) _ _ _ rfl (aQ.out.alloc _) ⟨w5.heap.size,0,none⟩ 1 1 (arC (k,t)) rfl rfl (rn _ _ _ _) (rG _) (by decide) ?c3 ?c4 ?c5 _ rfl ?_)
       case c3=>unfold maxLen;omega
       case c4=>omega
       case c5=>have:=bN.out;simp;omega
       ·intro g' ci w6 aI aj _ b8;have ag:=(aa.later (dx w5 (.cells #[.int .i64 ((k:Int)+1),.int .i64 t] 141))).app (p:=(k,t)) aj (by simpa using aI)
        have ai:=(ak.later (dx w5 (.cells #[.int .i64 ((k:Int)+1),.int .i64 t] 141))).grown (aQ.out.alloc _) aj (by decide)
        obtain⟨mc,mf⟩:=ag.met.cell k ao;have b9:w.heap.size+1<w6.heap.size:=ag.met.lt;have bX:=ag.met' k ao;have bw:=ai.other (M:=w.heap.size+1) (by omega) k (.bool true)
        clear aI aj aa ak ag ai af aD aQ;go_wp2_with fail;go_roundw
        case rel=>exact⟨(k:Int)-1,(k,t)::G,_,by omega,by omega,by go_num,Z.out,by simp;omega,V.out,bX,bw⟩
        case measure=>first |(simp[intOf];done)|(simp[intOf];omega)
    ·have bL:i= -1:=by omega
     have Z:Hid (Px.From (Bx.lns tab) m (t-1) (tn tab) G):=by
      have:=ac.out;rw[show (i+1).toNat=0 by omega] at this
      have q:=this.down;rw[ab.out] at q;exact q
     have V:Hid (∀j (h:j<(Bx.lns tab).length),f2 j=Px.metB (Bx.lns tab)[j] m (t-1)):=fun j h=>by rw[U.out j h,if_pos (by omega)]
     clear ac U Q bL;go_wp2_with fail;go_roundw
     case rel=>exact⟨t-1,G,f2,by omega,by omega,by go_num,Z.out,by omega,V.out,J⟩
     case measure=>first |(simp[intOf];done)|(simp[intOf];omega)
  ·have HE:Hid (out=Bx.comes (Bx.lns tab) a m):=by
    have:=az.out;rw[show t=a-1 by omega,←ab.out] at this
    exact this.done
   have bk:=HI.own;rw[HE.out] at bk;have bO:Hid (Below w.heap.size w wr):=HI.bel;clear HI az ay;go_wp2_with fail;go_ret;exact⟨⟨_,rfl,bk⟩,bO.out⟩
end Go.Proofs.YtdajolpoiffimabGreatDoor

namespace Go.Proofs.YtdajolpoiffimabGreatDoor
open Go.RowKit
structure ARes (w W:World) (s:Px.St) (sl en:Value) (p:Nat×Int):Prop where
 st:PIn W w.heap.size s sl en
 a0:W.cell? ⟨w.heap.size+1,0,none⟩=some (.int .i64 ((p.1:Int)+1))
 a1:W.cell? ⟨w.heap.size+1,1,none⟩=some (.int .i64 p.2)
 z:ZCell W (w.heap.size+2) 5
 ty:Typed W (w.heap.size+2) 77
 bel:Below w.heap.size w W
 lt:w.heap.size+2<W.heap.size
theorem ARes.new (w:World) (s:Px.St) (sl en:Value) (p:Nat×Int):ARes w (((w.alloc (pstO s sl en)).alloc (.cells #[.int .i64 ((p.1:Int)+1),.int .i64 p.2] 141)).alloc pzO) s sl en p:=by
 have e:=ZCell.new ((w.alloc (pstO s sl en)).alloc (.cells #[.int .i64 ((p.1:Int)+1),.int .i64 p.2] 141)) #[.string {data:= #[]},.int .i64 0,.int .i64 0,.slice none 0 0,.slice none 0 0] 77;have d:=Typed.new ((w.alloc (pstO s sl en)).alloc (.cells #[.int .i64 ((p.1:Int)+1),.int .i64 p.2] 141)) #[.string {data:= #[]},.int .i64 0,.int .i64 0,.slice none 0 0,.slice none 0 0] 77;refine⟨((PIn.new w s sl en).later (dx _ _)).later (dx _ _),by simp[go_sem],by simp[go_sem],by simpa using e,by simpa using d,((dx w _).alloc (by simp) _).alloc (by simp;omega) _,by simp⟩
theorem ARes.later {w W W':World}{s:Px.St}{sl en:Value}{p:Nat×Int} (h:ARes w W s sl en p) (hb:Below W.heap.size W W'):ARes w W' s sl en p:=
 ⟨h.st.later hb,cell_later hb h.a0,cell_later hb h.a1,h.z.later h.lt hb,h.ty.later hb,h.bel.trans (hb.mono h.bel.size),Nat.lt_of_lt_of_le h.lt hb.size⟩
theorem ARes.set {w W:World}{s:Px.St}{sl en:Value}{p:Nat×Int} (h:ARes w W s sl en p) {q:Nat} (J:w.heap.size+2<q) (j:Nat) (u:Value):ARes w (W.setCell ⟨q,j,none⟩ u) s sl en p:=by
 have d:∀(a i:Nat),a≤w.heap.size+2→(W.setCell ⟨q,j,none⟩ u).cell? ⟨a,i,none⟩=W.cell? ⟨a,i,none⟩:=fun a i I=>World.cell?_setCell_other _ _ _ _ (by first |(simp;done)|(simp;omega))
 obtain⟨c0,c1,c2,c3,c4⟩:=h.st;refine⟨⟨?_,?_,?_,?_,?_⟩,?_,?_,fun i hi=>⟨?_,?_⟩,h.ty.setCell _ _ _,h.bel.setCell (by first |(simp;done)|(simp;omega)) _,by have:=h.lt;simpa [World.setCell] using this⟩
 ·rw[d _ _ (by omega)];exact c0
 ·rw[d _ _ (by omega)];exact c1
 ·rw[d _ _ (by omega)];exact c2
 ·rw[d _ _ (by omega)];exact c3
 ·rw[d _ _ (by omega)];exact c4
 ·rw[d _ _ (by omega)];exact h.a0
 ·rw[d _ _ (by omega)];exact h.a1
 ·obtain⟨G,e⟩:=(h.z i hi).1;exact⟨G,by rw[d _ _ (by omega)];exact e⟩
 ·rw[World.frozen?_setCell];exact (h.z i hi).2
theorem qI {s:Px.St}{p:Nat×Int} (h:8≤s.slots.length):Px.arr s p={{s with next:=s.next+1} with ends:=Bx.push s.ends ⟨s.next,⟨#[115]⟩⟩}:=by
 unfold Px.arr;rw[if_pos h];rfl
theorem nF {s:Px.St}{p:Nat×Int} (h:¬8≤s.slots.length):Px.arr s p={{s with next:=s.next+1} with slots:=s.slots++[Px.slotOf p s.next]}:=by
 unfold Px.arr;rw[if_neg h]
set_option maxRecDepth 10000 in
set_option maxHeartbeats 0 in
theorem jb (s:Px.St) (p:Nat×Int) (sl en:Value) (w:World) (hl:s.slots.length≤10000) (he:s.ends.length≤10000) (n1:0≤s.next) (n2:s.next≤100000) (hS:PAt w s sl en):
 Calls Tryz.prog 89 #[pstV s sl en,.agg #[.int .i64 ((p.1:Int)+1),.int .i64 p.2]] w fun e w'=>(∃aB az,e=.returned (pstV (Px.arr s p) aB az)∧PAt w' (Px.arr s p) aB az)∧Below w.heap.size w w':=by
 obtain⟨ad,Y,rfl,bb⟩:=hS.sl.form;obtain⟨U,O,rfl,aW⟩:=hS.en.form;have HS:=Hq hS;have hP:=ARes.new w s (.slice ad s.slots.length Y) (.slice U s.ends.length O) p;clear hS
 go_enter Tryz.func89,Tryz.ntmps89
 go_upto_region 1 with fail;generalize ((w.alloc (pstO s (.slice ad s.slots.length Y) (.slice U s.ends.length O))).alloc (.cells #[.int .i64 ((p.1:Int)+1),.int .i64 p.2] 141)).alloc pzO=W at *;have aH:PAt W s (.slice ad s.slots.length Y) (.slice U s.ends.length O):=HS.out.later hP.bel;obtain⟨i0,i1,i2,i3,i4⟩:=hP.st;have aD:=hP.later (dx W (pstO s (.slice ad s.slots.length Y) (.slice U s.ends.length O)));have aE:=aH.later (dx W (pstO s (.slice ad s.slots.length Y) (.slice U s.ends.length O)));have hA:=PW.new W s (.slice ad s.slots.length Y) (.slice U s.ends.length O);have ay:=hP.lt;go_upto_region 3 with fail;clear i0 i1 i2 i3 i4 hP aH;generalize W.alloc (pstO s (.slice ad s.slots.length Y) (.slice U s.ends.length O))=W2 at *;generalize W.heap.size=q at *;have a2:=hA.st.c2;have g2:=hA.f 2 (by decide)
 have bv:=hA.ty.lt;have ah:=aD.set ay 2 (.int .i64 (s.next+1));have aF:=hA.next (s.next+1);have aC:=aE.set hA.ty (by decide) (by decide) 2 (.int .i64 (s.next+1))
 clear aD aE hA;go_upto_region 4 with fail;clear a2 g2;generalize W2.setCell ⟨q,2,none⟩ (.int .i64 (s.next+1))=W3 at *;have aa:=Hq ah;have ab:=Hq aF;have Z:=Hq aC;obtain⟨i0,i1,i2,i3,i4⟩:=ah.st;have b0:=ah.a0;have b1:=ah.a1;clear ah aF aC
 by_cases h8:8≤s.slots.length
 ·have HM:Hid (Px.arr s p={{s with next:=s.next+1} with ends:=Bx.push s.ends ⟨s.next,⟨#[115]⟩⟩}):=qI h8;go_wp2_with fail;refine (gW s.ends ⟨s.next,⟨#[115]⟩⟩ _ _ he Z.out.en.1).mono ?_;rintro e w5 ⟨⟨v5,rfl,Q⟩,V⟩;clear i0 i1 i2 i3 i4 b0 b1;obtain⟨J,d,au,_⟩:=(RowAt.of_own Q).form;subst au;have I:=ab.out.later V;have a4:=I.st.c4;have g4:=I.f 4 (by decide)
  have aS:=I.ty.lt;have G:=(aa.out.later V).set ay 4 (.slice J (Bx.push s.ends ⟨s.next,⟨#[115]⟩⟩).length d);have ae:=I.ends (Bx.push s.ends ⟨s.next,⟨#[115]⟩⟩) (.slice J (Bx.push s.ends ⟨s.next,⟨#[115]⟩⟩).length d);have af:=((Z.out.later V).set I.ty (by decide) (by decide) 4 (.slice J (Bx.push s.ends ⟨s.next,⟨#[115]⟩⟩).length d)).sl
  have ag:=(TRow.of_own Q).set I.ty (by decide) 4 (.slice J (Bx.push s.ends ⟨s.next,⟨#[115]⟩⟩).length d)
  clear I Q V aa ab Z;go_upto_region 6 with fail;clear a4 g4;generalize w5.setCell ⟨q,4,none⟩ (.slice J (Bx.push s.ends ⟨s.next,⟨#[115]⟩⟩).length d)=W6 at *;have aq:Hid (PAt W6 {{s with next:=s.next+1} with ends:=Bx.push s.ends ⟨s.next,⟨#[115]⟩⟩} (.slice ad s.slots.length Y) (.slice J (Bx.push s.ends ⟨s.next,⟨#[115]⟩⟩).length d)):=⟨af,ag⟩;have av:Hid (Typed W6 (w.heap.size+2) 77):=G.ty;have HB:Hid (Below w.heap.size w W6):=G.bel;obtain⟨⟨u0,r0⟩,f0⟩:=G.z 0 (by decide)
  obtain⟨⟨u1,r1⟩,f1⟩:=G.z 1 (by decide)
  obtain⟨⟨u2,r2⟩,f2⟩:=G.z 2 (by decide)
  obtain⟨⟨u3,r3⟩,f3⟩:=G.z 3 (by decide)
  obtain⟨⟨u4,r4⟩,f4⟩:=G.z 4 (by decide)
  obtain⟨c0,c1,c2,c3,c4⟩:=ae.st;clear G ae af ag;go_wp2_with fail;refine bodyPost_ret (v:=pstV {{s with next:=s.next+1} with ends:=Bx.push s.ends ⟨s.next,⟨#[115]⟩⟩} (.slice ad s.slots.length Y) (.slice J (Bx.push s.ends ⟨s.next,⟨#[115]⟩⟩).length d)) (by simp[results,Tryz.results89,go_sem,r0,r1,r2,r3,r4]) rfl ?_
  rw[HM.out];exact⟨⟨_,_,rfl,aq.out.store av.out _ _ _ _ _⟩,dF HB.out (by omega) _ _ _ _ _⟩
 ·have HM:Hid (Px.arr s p={{s with next:=s.next+1} with slots:=s.slots++[Px.slotOf p s.next]}):=nF h8;have aV:PsIn (W3.alloc (.cells #[.int .i64 s.next,.int .i64 ((p.1:Int)+1),.int .i64 p.2,.int .i64 1,.int .i64 p.2,.int .i64 0,.int .i64 0,.string {data:= #[]}] 143)) W3.heap.size (Px.slotOf p s.next):=PsIn.new W3 (Px.slotOf p s.next);have ar:=aa.out.later (dx W3 (.cells #[.int .i64 s.next,.int .i64 ((p.1:Int)+1),.int .i64 p.2,.int .i64 1,.int .i64 p.2,.int .i64 0,.int .i64 0,.string {data:= #[]}] 143));have aI:=ab.out.later (dx W3 (.cells #[.int .i64 s.next,.int .i64 ((p.1:Int)+1),.int .i64 p.2,.int .i64 1,.int .i64 p.2,.int .i64 0,.int .i64 0,.string {data:= #[]}] 143));have aA:=Z.out.later (dx W3 (.cells #[.int .i64 s.next,.int .i64 ((p.1:Int)+1),.int .i64 p.2,.int .i64 1,.int .i64 p.2,.int .i64 0,.int .i64 0,.string {data:= #[]}] 143));clear aa ab Z;go_upto_region 8 with fail;clear i0 i1 i2 i3 i4 b0 b1;generalize W3.alloc (.cells #[.int .i64 s.next,.int .i64 ((p.1:Int)+1),.int .i64 p.2,.int .i64 1,.int .i64 p.2,.int .i64 0,.int .i64 0,.string {data:= #[]}] 143)=W4 at *;generalize W3.heap.size=sq at *;generalize Px.slotOf p s.next=x at *;have aw:=Hq ar;have ap:=Hq aI;have ai:=Hq aA;obtain⟨i0,i1,i2,i3,i4⟩:=ar.st;obtain⟨x0,x1,x2,x3,x4,x5,x6,x7⟩:=aV;clear ar aI aA;go_wp2_with fail;refine (jT s.slots x _ _ hl ai.out.sl.1).mono ?_;rintro e w5 ⟨⟨v5,rfl,Q⟩,V⟩;clear i0 i1 i2 i3 i4 x0 x1 x2 x3 x4 x5 x6 x7;obtain⟨J,d,au,_⟩:=(RowAt.of_own Q).form;subst au;have I:=ap.out.later V;have a3:=I.st.c3;have g3:=I.f 3 (by decide)
  have aS:=I.ty.lt;have G:=(aw.out.later V).set ay 3 (.slice J (s.slots++[x]).length d);have ae:=I.slots (s.slots++[x]) (.slice J (s.slots++[x]).length d);have ag:=((ai.out.later V).set I.ty (by decide) (by decide) 3 (.slice J (s.slots++[x]).length d)).en
  have af:=(TRow.of_own Q).set I.ty (by decide) 3 (.slice J (s.slots++[x]).length d)
  clear I Q V aw ap ai;generalize aG:(s.slots++[x]).length=nn at *;have aR:=Hq aG;clear aG;go_upto_region 9 with fail;clear a3 g3;generalize w5.setCell ⟨q,3,none⟩ (.slice J nn d)=W6 at *;have aq:Hid (PAt W6 {{s with next:=s.next+1} with slots:=s.slots++[x]} (.slice J nn d) (.slice U s.ends.length O)):=⟨by show TRow W6 _ _ (s.slots++[x]).length _;rw[aR.out];exact af,ag⟩
  have av:Hid (Typed W6 (w.heap.size+2) 77):=G.ty;have HB:Hid (Below w.heap.size w W6):=G.bel;obtain⟨⟨u0,r0⟩,f0⟩:=G.z 0 (by decide)
  obtain⟨⟨u1,r1⟩,f1⟩:=G.z 1 (by decide)
  obtain⟨⟨u2,r2⟩,f2⟩:=G.z 2 (by decide)
  obtain⟨⟨u3,r3⟩,f3⟩:=G.z 3 (by decide)
  obtain⟨⟨u4,r4⟩,f4⟩:=G.z 4 (by decide)
  obtain⟨c0,c1,c2,c3,c4⟩:=ae.st;clear G ae af ag;go_wp2_with fail;refine bodyPost_ret (v:=pstV {{s with next:=s.next+1} with slots:=s.slots++[x]} (.slice J nn d) (.slice U s.ends.length O)) (by simp[results,Tryz.results89,go_sem,r0,r1,r2,r3,r4]) rfl ?_
  rw[HM.out];exact⟨⟨_,_,rfl,aq.out.store av.out _ _ _ _ _⟩,dF HB.out (by omega) _ _ _ _ _⟩
end Go.Proofs.YtdajolpoiffimabGreatDoor

namespace Go.Proofs.YtdajolpoiffimabGreatDoor
open Go.RowKit
def PBx (w:World) (B:Nat) (b:Px.Bo):Prop:=∃sl en,PB w B b sl en
theorem eZ (c:Bx.Ch) (h:c.tab.size≤300):(Bx.frame (Bx.body c)).size≤400:=by
 rw[Bx.frame_size];have:=Bx.body_size c;omega
inductive LoadA (b:Px.Bo) (B:Nat) (tab:ByteArray) (w:World):Ending→World→Prop
 | mk (w':World) (b':Px.Bo) (a r:Int) (h:Px.LoadB b tab b' a r) (hB:PBx w' B b') (hg:w.grownBy w' (some B)):LoadA b B tab w (.returned (.tuple #[.int .i64 a,.int .i64 r])) w'
set_option maxRecDepth 10000 in
set_option maxHeartbeats 0 in
theorem o6 (b:Px.Bo) (B:Nat) (tab:ByteArray) (sl en:Value) (w:World) (hO:Px.Ok b.st) (bj:b.log.size≤10000) (hs:tab.size≤maxLen) (hT:TabLH w) (hB:PB w B b sl en):
 Calls Tryz.prog 21 #[.pointer (some ⟨B,0,none⟩),.string tab] w fun e w'=>LoadA b B tab w e w':=by
 obtain⟨ad,aR,rfl,a6⟩:=hB.rows.sl.form;obtain⟨aI,aD,rfl,aU⟩:=hB.rows.en.form;have HB:=Hq hB;have HT:=Hq hT;have HS:=Hq hs;have hl:b.st.slots.length≤10000:=by have:=hO.len;omega
 clear hB hT hs
 go_enter Tryz.func21,Tryz.ntmps21
 go_wp2_with fail;refine (mm _ _ HS.out HT.out).mono ?_;rintro e w1 ⟨⟨a,r,rfl,hC⟩,Y⟩;have d:=HB.out.later Y;have az:Hid (w.grownBy w1 (some B)):=dy Y _;have HC:=Hq hC;have aQ:=Hq (HT.out.later Y);have aH:=hC.bd
 by_cases hr:r=0
 rotate_left
 ·have bk:(r !=0)=true:=by simpa using hr
  have HA:Hid (LoadA b B tab w (.returned (.tuple #[.int .i64 a,.int .i64 r])) w1):=LoadA.mk w1 b a r (Or.inl ⟨hr,hC,rfl⟩) ⟨_,_,d⟩ az.out;clear hr hC d Y;go_wp2_with fail;go_ret2;exact HA.out
 subst hr;have ha:=hC.zero rfl;subst ha;have ak:=hC.lines.1;have bm:=d.ty.lt;have e2:=d.c2;have e3:=d.c3;have e4:=d.c4;have e5:=d.c5;have e6:=d.c6;have ao:=Hq d;clear hC d Y aH;go_wp2_with fail;refine (iD b.st tab _ _ _ HS.out aQ.out hl ao.out.rows).mono ?_;rintro e O ⟨⟨aa,rr,aO,ay⟩,ac⟩;obtain⟨rfl,rfl⟩:=HC.out.uniq aO;rw[show tabC b.st tab 0=Px.tabP b.st tab from if_pos rfl] at ay
 obtain⟨bn,bp,rfl,G⟩:=ay;obtain⟨Q,J,aN,_⟩:=G.sl.form;obtain⟨U,I,aE,_⟩:=G.en.form;subst aN aE;clear e2 e3 e4 e5 e6;have au:Hid (w.grownBy O (some B)):=dA az.out (dy ac _);have V:=ao.out.later ac
 by_cases h0:0<b.st.slots.length
 ·have e:Px.tabP b.st tab=(Px.st0,5):=if_pos h0;rw[e];have ae:=V.later (dx O (.cells #[.string {data:= #[]},.int .i64 0,.int .i64 0,.slice Q (Px.tabP b.st tab).1.slots.length J,.slice U (Px.tabP b.st tab).1.ends.length I] 77));have aF:Hid (∀o,w.grownBy (O.alloc o) (some B)):=fun o=>dA au.out (dy (dx O o) _)
  have aM:Hid (∀o,PB (O.alloc o) B b (.slice ad b.st.slots.length aR) (.slice aI b.st.ends.length aD)):=fun o=>V.later (dx O o)
  clear ac V ae G;go_wp2_with fail;go_ret2;exact LoadA.mk _ b 0 5 (Or.inr (Or.inl ⟨HC.out,h0,rfl,rfl,rfl⟩)) ⟨_,_,aM.out _⟩ (aF.out _)
 ·have e:Px.tabP b.st tab=({b.st with tab:=tab},0):=if_neg h0;rw[e] at G ⊢;have aA:b.st.slots.length=0:=by omega
  have ar:=Hq aA;have aw:=PIn.new O {b.st with tab:=tab} (.slice Q b.st.slots.length J) (.slice U b.st.ends.length I);have ae:=V.later (dx O (pstO {b.st with tab:=tab} (.slice Q b.st.slots.length J) (.slice U b.st.ends.length I)));have aB:=G.later (dx O (pstO {b.st with tab:=tab} (.slice Q b.st.slots.length J) (.slice U b.st.ends.length I)));have av:=dA au.out (dy (dx O (pstO {b.st with tab:=tab} (.slice Q b.st.slots.length J) (.slice U b.st.ends.length I))) (some B));clear ac V G aA;go_upto_region 5 with fail;generalize O.alloc (pstO {b.st with tab:=tab} (.slice Q b.st.slots.length J) (.slice U b.st.ends.length I))=W3 at *;generalize O.heap.size=q at *;have am:=Hq ae;have ai:=Hq aB;have al:=Hq aw;have aj:=Hq av;clear ae aB aw av;go_wp2_with fail;refine (p6 tab _ ak).mono ?_;rintro e w4 ⟨rfl,Z⟩;have aC:=Hq (am.out.later Z);have aT:=Hq (ai.out.later Z);obtain⟨i0,i1,i2,i3,i4⟩:=al.out.later Z;have ax:Hid (w.grownBy w4 (some B)):=dA aj.out (dy Z _);have bo:=eZ (chT tab) ak;have ag:Hid (Bx.frames [chT tab]=Bx.frame (Bx.body (chT tab))):=Px.frames_one _;generalize Bx.frame (Bx.body (chT tab))=fr at *;clear Z am ai al aj;go_wp2_with fail;refine (fm b B {b.st with tab:=tab} fr _ _ _ _ _ (by omega) (by omega) aC.out aT.out).mono ?_
  intro e w5 aP;clear i0 i1 i2 i3 i4
  cases aP with
  | no _ h hb=>
    have af:Hid (w.grownBy w5 (some B)):=dA ax.out (dy hb _);have ah:=Hq (aC.out.later hb);have hR:Hid (b.room<(b.log.size:Int)+(Bx.frames [chT tab]).size):=by unfold Hid;rw[ag.out];exact h
    clear hb h;go_wp2_with fail;go_ret2;exact LoadA.mk _ b 0 13 (Or.inr (Or.inr (Or.inl ⟨HC.out,ar.out,hR.out,rfl,rfl,rfl⟩))) ⟨_,_,ah.out⟩ af.out
  | yes _ h hB hg=>
    have af:Hid (w.grownBy w5 (some B)):=dA ax.out hg;have ah:=Hq hB;have hR:Hid (¬b.room<(b.log.size:Int)+(Bx.frames [chT tab]).size):=by unfold Hid;rw[ag.out];exact h
    clear hg hB h;go_wp2_with fail;go_ret2;exact LoadA.mk _ _ 0 0 (Or.inr (Or.inr (Or.inr ⟨HC.out,ar.out,(by have:=hR.out;omega),rfl,rfl,rfl⟩))) ⟨_,_,by rw[ag.out];exact ah.out⟩ af.out
end Go.Proofs.YtdajolpoiffimabGreatDoor

namespace Go.Proofs.YtdajolpoiffimabGreatDoor
open Go.RowKit
set_option maxRecDepth 10000 in
set_option maxHeartbeats 0 in
theorem gq (s:Px.St) (n:Int) (sl en:Value) (w:World) (hl:s.slots.length≤10000) (he:s.ends.length≤10000) (hS:PAt w s sl en):
 Calls Tryz.prog 59 #[pstV s sl en,.int .i64 n] w fun e w'=>ChgR (Px.cancelP s n) w' e∧Below w.heap.size w w':=by
 obtain⟨ad,af,rfl,aT⟩:=hS.sl.form;obtain⟨ai,Y,rfl,aK⟩:=hS.en.form;have HS:=Hq hS;have hP:=PRes.new w s (.slice ad s.slots.length af) (.slice ai s.ends.length Y);clear hS
 go_enter Tryz.func59,Tryz.ntmps59
 go_upto_region 1 with fail;generalize (w.alloc (pstO s (.slice ad s.slots.length af) (.slice ai s.ends.length Y))).alloc pzO=W at *;have aa:=Hq (HS.out.later hP.bel);have HP:=Hq hP;obtain⟨i0,i1,i2,i3,i4⟩:=hP.st;clear hP;go_wp2_with fail;refine (fB s n _ _ _ hl aa.out).mono ?_;rintro e w1 ⟨hF,Q⟩;clear i0 i1 i2 i3 i4;have I:=HP.out.later Q;have V:=aa.out.later Q;clear HP aa Q
 rcases hF with ⟨x,U,rfl⟩|⟨U,rfl⟩
 rotate_left
 ·have HM:Hid (Px.cancelP s n=(Px.st0,8)):=by unfold Hid Px.cancelP;rw[U]
  clear U;generalize Px.sl0=x at *;have O:=I.later (dx w1 (psO x));clear I V;go_upto_region 2 with fail;generalize w1.alloc (psO x)=W2 at *;obtain⟨⟨⟨u0,r0⟩,f0⟩,⟨⟨u1,r1⟩,f1⟩,⟨⟨u2,r2⟩,f2⟩,⟨⟨u3,r3⟩,f3⟩,⟨⟨u4,r4⟩,f4⟩⟩:=O.five;have aE:Hid (Below w.heap.size w W2):=O.bel;clear O;go_wp2_with fail;refine bodyPost_ret (v:=.tuple #[.agg #[.string {data:= #[]},.int .i64 0,.int .i64 0,.slice none 0 0,.slice none 0 0],.int .i64 8]) (by simp[results,Tryz.results59,go_sem,r0,r1,r2,r3,r4]) rfl ⟨ChgR.err HM.out,dF aE.out (by omega) _ _ _ _ _⟩
 have az:=Hq U;have ah:=I.later (dx w1 (psO x));have ac:=V.later (dx w1 (psO x));have ag:=PsIn.new w1 x;have ba:w1.heap.size<(w1.alloc (psO x)).heap.size:=by simp
 have a9:w.heap.size+1<w1.heap.size:=I.lt;clear I V U;go_upto_region 2 with fail;generalize w1.alloc (psO x)=W2 at *;generalize w1.heap.size=xq at *;have J:=Hq ah;have Z:=Hq ac;have a7:=Hq ag;obtain⟨x0,x1,x2,x3,x4,x5,x6,x7⟩:=ag;clear ah ac;have HM:Hid (Px.cancelP s n=(Px.ended s x.num ⟨#[107]⟩,0)):=by unfold Hid Px.cancelP;rw[az.out,rh]
 obtain⟨i0,i1,i2,i3,i4⟩:=J.out.st;go_wp2_with fail;refine (hJ s x.num ⟨#[107]⟩ _ _ _ hl he Z.out).mono ?_;rintro e w4 ⟨⟨a8,a6,rfl,d⟩,ae⟩;clear i0 i1 i2 i3 i4 x0 x1 x2 x3 x4 x5 x6 x7;have G:=J.out.later ae;obtain⟨aD,aw,ax,_⟩:=d.sl.form;obtain⟨aF,am,aH,_⟩:=d.en.form;subst ax aH;have H4:=Hq d;have ay:Hid (Typed w4 (w.heap.size+1) 77):=G.ty;have aI:Hid (Below w.heap.size w w4):=G.bel;obtain⟨⟨⟨u0,r0⟩,f0⟩,⟨⟨u1,r1⟩,f1⟩,⟨⟨u2,r2⟩,f2⟩,⟨⟨u3,r3⟩,f3⟩,⟨⟨u4,r4⟩,f4⟩⟩:=G.five;clear d ae G J Z;go_wp2_with fail;refine bodyPost_ret (v:=.tuple #[pstV (Px.ended s x.num ⟨#[107]⟩) (.slice aD (Px.ended s x.num ⟨#[107]⟩).slots.length aw) (.slice aF (Px.ended s x.num ⟨#[107]⟩).ends.length am),.int .i64 0]) (by simp[results,Tryz.results59,go_sem,r0,r1,r2,r3,r4]) rfl ⟨ChgR.ok HM.out (H4.out.store ay.out _ _ _ _ _),dF aI.out (by omega) _ _ _ _ _⟩
set_option maxHeartbeats 0 in
theorem ln (n:Int) (w:World) (h1:0≤n) (h2:n≤100000):
 Calls Tryz.prog 60 #[.int .i64 n] w fun e d=>e=.returned (.string (Bx.frame (Bx.body (chK n))))∧Below w.heap.size w d:=by
 go_enter Tryz.func60,Tryz.ntmps60
 go_wp2_with fail;refine (fJ 75 75 n _ (by decide) (by omega) (by omega) h1 h2).mono ?_
 rintro e w1 ⟨rfl,b1⟩;go_wp2_with fail;go_ret;exact⟨rfl,b1⟩
inductive AnsC (p:Px.Bo×Int) (B:Nat) (w:World):Ending→World→Prop
 | mk (w':World) (hB:PBx w' B p.1) (hg:w.grownBy w' (some B)):AnsC p B w (.returned (.int .i64 p.2)) w'
theorem AnsC.of {p:Px.Bo×Int}{B:Nat}{w d:World}{b:Px.Bo}{r:Int} (h:p=(b,r)) (hB:PBx d B b) (e:w.grownBy d (some B)):AnsC p B w (.returned (.int .i64 r)) d:=by
 subst h;exact AnsC.mk d hB e
theorem oM (s:Px.St) (n:Int):(Px.cancelP s n).2=0∨(Px.cancelP s n).2=8:=by
 unfold Px.cancelP
 cases Px.find s.slots n with
 | none=>right;rfl
 | some x=>left;rfl
theorem mZ {s:Px.St} (h:Px.Ok s) {n:Int} (h0:(Px.cancelP s n).2=0):0≤n∧n≤100000:=by
 unfold Px.cancelP at h0
 cases q:Px.find s.slots n with
 | none=>rw[q] at h0;cases h0
 | some x=>
   have hm:=List.mem_of_find?_eq_some q;have d:x.num=n:=by simpa using List.find?_some q
   have:=h.each hm;have:s.next≤10000:=h.st.n2;omega
set_option maxRecDepth 10000 in
set_option maxHeartbeats 0 in
theorem lC (b:Px.Bo) (B:Nat) (n:Int) (sl en:Value) (w:World) (hO:Px.Ok b.st) (aV:b.log.size≤10000) (hB:PB w B b sl en):
 Calls Tryz.prog 30 #[.pointer (some ⟨B,0,none⟩),.int .i64 n] w fun e w'=>AnsC (Px.cancelB b n) B w e w':=by
 obtain⟨ad,au,rfl,aM⟩:=hB.rows.sl.form;obtain⟨aB,ao,rfl,aE⟩:=hB.rows.en.form;have HB:=Hq hB;have HO:=Hq hO;have hl:b.st.slots.length≤8:=hO.len;have he:b.st.ends.length≤6:=hO.st.en;have aX:=hB.ty.lt;have e2:=hB.c2;have e3:=hB.c3;have e4:=hB.c4;have e5:=hB.c5;have e6:=hB.c6;clear hB hO
 go_enter Tryz.func30,Tryz.ntmps30
 go_wp2_with fail;refine (gq b.st n _ _ _ (by omega) (by omega) HB.out.rows).mono ?_
 rintro e w1 ⟨⟨a2,aY,rfl,J⟩,Y⟩;have V:=HB.out.later Y;have U:=dy Y (some B);clear e2 e3 e4 e5 e6 Y;obtain⟨Q,d,ay,_⟩:=J.sl.form;obtain⟨O,G,aq,_⟩:=J.en.form;subst ay aq;have aA:=oM b.st n
 by_cases hd:(Px.cancelP b.st n).2=0
 rotate_left
 ·have HM:Hid (Px.cancelB b n=(b,(Px.cancelP b.st n).2)):=by unfold Hid Px.cancelB;rw[if_pos hd]
  have aZ:((Px.cancelP b.st n).2 !=0)=true:=by simpa using hd
  have ax:Hid (∀o,PB (w1.alloc o) B b (.slice ad b.st.slots.length au) (.slice aB b.st.ends.length ao)):=fun o=>V.later (dx w1 o)
  have ar:Hid (∀o,w.grownBy (w1.alloc o) (some B)):=fun o=>dA U (dy (dx w1 o) _)
  clear hd V U J;generalize (Px.cancelP b.st n).2=r at *;generalize (Px.cancelP b.st n).1=t at *;go_wp2_with fail;go_ret;exact AnsC.of HM.out ⟨_,_,ax.out _⟩ (ar.out _)
 obtain⟨ap,aw⟩:=mZ HO.out hd
 have al:Hid (Px.cancelB b n=if b.room<(b.log.size:Int)+(Bx.frame (Bx.body (chK n))).size then (b,13) else ({b with st:=(Px.cancelP b.st n).1,log:=b.log++Bx.frame (Bx.body (chK n))},0)):=by
  unfold Hid Px.cancelB;rw[if_neg (by omega),Px.frames_one]
 rw[hd];clear aA hd;generalize (Px.cancelP b.st n).1=t at *;have aj:=V.later (dx w1 (pstO t (.slice Q t.slots.length d) (.slice O t.ends.length G)));have am:=dA U (dy (dx w1 (pstO t (.slice Q t.slots.length d) (.slice O t.ends.length G))) (some B));have ai:=J.later (dx w1 (pstO t (.slice Q t.slots.length d) (.slice O t.ends.length G)));have ag:=PIn.new w1 t (.slice Q t.slots.length d) (.slice O t.ends.length G);clear V U J;go_upto_region 2 with fail;generalize w1.alloc (pstO t (.slice Q t.slots.length d) (.slice O t.ends.length G))=W2 at *;generalize w1.heap.size=tq at *;have Z:=Hq aj;have ae:=Hq am;have ac:=Hq ai;have aa:=Hq ag;clear aj am ai ag;go_wp2_with fail;refine (ln n _ ap aw).mono ?_;rintro e w3 ⟨rfl,I⟩;have ak:=Hq (Z.out.later I);have ah:Hid (w.grownBy w3 (some B)):=dA ae.out (dy I _);have az:=Hq (ac.out.later I);obtain⟨i0,i1,i2,i3,i4⟩:=aa.out.later I;have aW:(Bx.frame (Bx.body (chK n))).size≤10000:=by have:=eZ (chK n) (by show (0:Nat)≤300;omega);omega
 clear I Z ae ac aa;generalize Bx.frame (Bx.body (chK n))=fr at *;go_wp2_with fail;refine (fm b B t fr _ _ _ _ _ (by omega) (by omega) ak.out az.out).mono ?_
 intro e w5 aD;clear i0 i1 i2 i3 i4
 cases aD with
 | no _ h hb=>
   have ab:Hid (AnsC (Px.cancelB b n) B w (.returned (.int .i64 13)) w5):=AnsC.of (by rw[al.out,if_pos h]) ⟨_,_,ak.out.later hb⟩ (dA ah.out (dy hb _))
   clear hb h;go_wp2_with fail;go_ret;exact ab.out
 | yes _ h hB hg=>
   have ab:Hid (AnsC (Px.cancelB b n) B w (.returned (.int .i64 0)) w5):=AnsC.of (by rw[al.out,if_neg h]) ⟨_,_,hB⟩ (dA ah.out hg)
   clear hB hg h;go_wp2_with fail;go_ret;exact ab.out
end Go.Proofs.YtdajolpoiffimabGreatDoor

namespace Go.Proofs.YtdajolpoiffimabGreatDoor
open Go.RowKit
theorem qS {s:Px.St} (p:Nat×Int) (h:s.slots.length≤8) (d:s.ends.length≤6):(Px.arr s p).slots.length≤8∧(Px.arr s p).ends.length≤6∧(Px.arr s p).next=s.next+1:=by
 unfold Px.arr;split
 ·exact⟨h,by show (Bx.push _ _).length≤6;simp[Bx.push];omega,rfl⟩
 ·exact⟨by simp;omega,d,rfl⟩
theorem oe (l:List (Nat×Int)) (s:Px.St) (h:s.slots.length≤8) (d:s.ends.length≤6):(l.foldl Px.arr s).slots.length≤8∧(l.foldl Px.arr s).ends.length≤6∧(l.foldl Px.arr s).next=s.next+l.length:=by
 induction l generalizing s with
 | nil=>exact⟨h,d,by simp⟩
 | cons p r I=>
   obtain⟨h1,h2,e⟩:=qS p h d;obtain⟨J,w,G⟩:=I (Px.arr s p) h1 h2;exact⟨J,w,by rw[List.foldl_cons,G,e];simp;omega⟩
theorem mF (l:List (Nat×Int)) (s:Px.St) (k:Nat) (h:k<l.length):(l.take (k+1)).foldl Px.arr s=Px.arr ((l.take k).foldl Px.arr s) l[k]:=by
 rw[List.take_succ_eq_append_getElem h,List.foldl_append];rfl
theorem PW.put {W:World}{q:Nat}{s:Px.St}{sl en:Value} (h:PW W q s sl en) (t:Px.St) (d e:Value):
 PW (((((W.setCell ⟨q,0,none⟩ (.string t.tab)).setCell ⟨q,1,none⟩ (.int .i64 t.clock)).setCell ⟨q,2,none⟩ (.int .i64 t.next)).setCell ⟨q,3,none⟩ d).setCell ⟨q,4,none⟩ e) q t d e:=by
 obtain⟨⟨c0,c1,c2,c3,c4⟩,f,ty⟩:=h;refine⟨⟨?_,?_,?_,?_,?_⟩,fun j w=>?_,((((ty.setCell _ _ _).setCell _ _ _).setCell _ _ _).setCell _ _ _).setCell _ _ _⟩
 case refine_6=>simp[go_sem,f j w]
 all_goals simp[go_sem,c0,c1,c2,c3,c4]
structure CkIn (w wr:World) (q:Nat) (s t:Px.St) (sl en slt ent v:Value) (n:Nat) (cells:List Value):Prop where
 res:PRes w wr s sl en
 pw:PW wr q t slt ent
 at':PAt wr t slt ent
 row:TRow wr 141 v n cells
theorem CkIn.later {w wr I:World}{q:Nat}{s t:Px.St}{sl en e G v:Value}{n:Nat}{d:List Value} (h:CkIn w wr q s t sl en e G v n d) (hb:Below wr.heap.size wr I):CkIn w I q s t sl en e G v n d:=
 ⟨h.res.later hb,h.pw.later hb,h.at'.later hb,h.row.later hb⟩
theorem CkIn.put {w wr:World}{q:Nat}{s t u:Px.St}{sl en O J G e v:Value}{n:Nat}{d:List Value} (h:CkIn w wr q s t sl en O J v n d) (I:w.heap.size+1<q) (Q:PAt wr u G e):
 CkIn w (((((wr.setCell ⟨q,0,none⟩ (.string u.tab)).setCell ⟨q,1,none⟩ (.int .i64 u.clock)).setCell ⟨q,2,none⟩ (.int .i64 u.next)).setCell ⟨q,3,none⟩ G).setCell ⟨q,4,none⟩ e) q s u sl en G e v n d:=by
 refine⟨((((h.res.set I _ _).set I _ _).set I _ _).set I _ _).set I _ _,h.pw.put u G e,Q.store h.pw.ty _ _ _ _ _,?_⟩;have st:∀(w:World) (j:Nat) (x:Value),(Typed w q 77∧TRow w 141 v n d)→(Typed (w.setCell ⟨q,j,none⟩ x) q 77∧TRow (w.setCell ⟨q,j,none⟩ x) 141 v n d):=fun w j x h=>⟨h.1.setCell _ _ _,h.2.set h.1 (by decide) _ _⟩
 exact (st _ _ _ (st _ _ _ (st _ _ _ (st _ _ _ (st _ _ _ ⟨h.pw.ty,h.row⟩))))).2
theorem tp {w:World}{L:List (Nat×Int)}{b d:Nat} (c:∀j (h:j<(L.flatMap arC).length),w.cell? ⟨b,d+j,none⟩=some (L.flatMap arC)[j]) (i:Nat) (hi:i<L.length):
 w.cell? ⟨b,d+i*2,none⟩=some (.int .i64 ((L[i].1:Int)+1))∧w.cell? ⟨b,d+i*2+1,none⟩=some (.int .i64 L[i].2):=
 ⟨RowAt.cell lR c i hi 0 (by decide),RowAt.cell lR c i hi 1 (by decide)⟩
set_option maxRecDepth 10000 in
set_option maxHeartbeats 0 in
theorem gK (s:Px.St) (m:Int) (sl en:Value) (w:World) (hO:Px.Ok s) (hT:TabLH w) (hM:Tab w) (hS:PAt w s sl en):
 Calls Tryz.prog 47 #[pstV s sl en,.int .i64 m] w fun e w'=>ChgR (Px.clockP s m) w' e∧Below w.heap.size w w':=by
 obtain⟨ad,Q,rfl,b0⟩:=hS.sl.form;obtain⟨O,G,rfl,bY⟩:=hS.en.form;have HO:=Hq hO;have a9: -1≤s.clock:=hO.st.c1;have bq:s.clock≤4223371679:=hO.st.c2;have cj:1≤s.next:=hO.st.n1;have cs:s.next≤10000:=hO.st.n2;have bn:=Px.clock_err' s m;have ab:Hid _:=bn;have HS:=Hq hS;have hP:=PRes.new w s (.slice ad s.slots.length Q) (.slice O s.ends.length G);clear hS hO bn
 go_enter Tryz.func47,Tryz.ntmps47
 go_upto_region 1 with fail;generalize (w.alloc (pstO s (.slice ad s.slots.length Q) (.slice O s.ends.length G))).alloc pzO=W at *;have aC:=Hq (HS.out.later hP.bel);have HT:=Hq (hT.later hP.bel);have aP:=Hq (hM.later hP.bel);have HP:=Hq hP;obtain⟨i0,i1,i2,i3,i4⟩:=hP.st;clear hP hT hM
 by_cases h4:m<0∨4223371679<m
 ·have HM:Hid (Px.clockP s m=(Px.st0,4)):=ab.out.1 h4;have Y:=HP.out;clear HP aC HT aP
  rcases h4 with h4|h4
  ·obtain⟨⟨⟨u0,r0⟩,f0⟩,⟨⟨u1,r1⟩,f1⟩,⟨⟨u2,r2⟩,f2⟩,⟨⟨u3,r3⟩,f3⟩,⟨⟨u4,r4⟩,f4⟩⟩:=Y.five;have U:Hid (Below w.heap.size w W):=Y.bel;clear Y;go_wp2_with fail;refine bodyPost_ret (v:=.tuple #[.agg #[.string {data:= #[]},.int .i64 0,.int .i64 0,.slice none 0 0,.slice none 0 0],.int .i64 4]) (by simp[results,Tryz.results47,go_sem,r0,r1,r2,r3,r4]) rfl ⟨ChgR.err HM.out,dF U.out (by omega) _ _ _ _ _⟩
  ·by_cases h5:m<0
   ·omega
   ·obtain⟨⟨⟨u0,r0⟩,f0⟩,⟨⟨u1,r1⟩,f1⟩,⟨⟨u2,r2⟩,f2⟩,⟨⟨u3,r3⟩,f3⟩,⟨⟨u4,r4⟩,f4⟩⟩:=Y.five;have U:Hid (Below w.heap.size w W):=Y.bel;clear Y;go_wp2_with fail;refine bodyPost_ret (v:=.tuple #[.agg #[.string {data:= #[]},.int .i64 0,.int .i64 0,.slice none 0 0,.slice none 0 0],.int .i64 4]) (by simp[results,Tryz.results47,go_sem,r0,r1,r2,r3,r4]) rfl ⟨ChgR.err HM.out,dF U.out (by omega) _ _ _ _ _⟩
 have m1:0≤m:=by omega
 have m2:m≤4223371679:=by omega
 go_wp2_with fail;refine (mN s m _ _ _ a9 bq m1 m2 aC.out).mono ?_;rintro e w1 ⟨rfl,ai⟩;clear i0 i1 i2 i3 i4;have J:=HP.out.later ai;have aT:=Hq (aC.out.later ai);have bs:=Hq (HT.out.later ai);have br:=Hq (aP.out.later ai);clear HP aC HT aP ai
 cases Z:Px.aheadP s m
 ·have HM:Hid (Px.clockP s m=(Px.st0,6)):=ab.out.2.1 h4 Z;clear Z h4;obtain⟨⟨⟨u0,r0⟩,f0⟩,⟨⟨u1,r1⟩,f1⟩,⟨⟨u2,r2⟩,f2⟩,⟨⟨u3,r3⟩,f3⟩,⟨⟨u4,r4⟩,f4⟩⟩:=J.five;have U:Hid (Below w.heap.size w w1):=J.bel;clear J;go_wp2_with fail;refine bodyPost_ret (v:=.tuple #[.agg #[.string {data:= #[]},.int .i64 0,.int .i64 0,.slice none 0 0,.slice none 0 0],.int .i64 6]) (by simp[results,Tryz.results47,go_sem,r0,r1,r2,r3,r4]) rfl ⟨ChgR.err HM.out,dF U.out (by omega) _ _ _ _ _⟩
 have bE:s.clock<m∧(s.clock= -1∨m-s.clock≤1500):=by unfold Px.aheadP at Z;exact of_decide_eq_true Z
 have aK:0≤Px.newA s m∧Px.newA s m≤m∧m-Px.newA s m≤1500:=by unfold Px.newA;split<;>omega
 have V:Hid (Px.clockP s m=if 10000<s.next+((Px.comesP s m).length:Int) then (Px.st0,7) else ({(Px.comesP s m).foldl Px.arr s with clock:=m},0)):=ab.out.2.2 h4 Z
 clear Z h4 bE ab;obtain⟨i0,i1,i2,i3,i4⟩:=J.st;have bb:=Hq J;clear J;go_wp2_with fail;refine (gx s _ _ _ HO.out.st.tab bs.out aT.out).mono ?_;rintro e w2 ⟨⟨g,c,rfl,cn,hL⟩,aA⟩;clear i0 i1 i2 i3 i4;have ao:=bb.out.later aA;have aO:=Hq (aT.out.later aA);have bp:=Hq (br.out.later aA);have bj:=Hq hL;have bw:=Hq ao;obtain⟨i0,i1,i2,i3,i4⟩:=ao.st;clear ao bb aT bs br aA hL;go_wp2_with fail;refine (kA s m _ _ _ a9 bq aO.out).mono ?_;rintro e w3 ⟨rfl,aj⟩;clear i0 i1 i2 i3 i4;have bu:=Hq (bw.out.later aj);have ba:=Hq (aO.out.later aj);have bc:=Hq (bp.out.later aj);have aI:=Hq (bj.out.later aj);clear bw aO bp bj aj;go_wp2_with fail;refine (iY s.tab g c (Px.newA s m) m w3 HO.out.st.tab aK.1 aK.2.1 m2 aK.2.2 bc.out aI.out).mono ?_;rintro e w4 ⟨⟨v,rfl,aR⟩,aU⟩;have I:=bu.out.later aU;have aF:=ba.out.later aU;have au:=TRow.of_own aR;obtain⟨bo,aG,bT,_⟩:=au.form;subst bT;have aS:=Hq au;have bg:Hid (Px.comesP s m=Bx.comes (Bx.lns s.tab) (Px.newA s m) m):=rfl;rw[bg.out] at V
 have co:(Bx.comes (Bx.lns s.tab) (Px.newA s m) m).length≤100000:=by
  have h1:=Bx.comes_len (Bx.lns s.tab) (Px.newA s m) m;have h2:=jy s.tab;have h3:=gJ HO.out.st.tab;have h5:(m+1-Px.newA s m).toNat≤1501:=by omega
  have h6:(m+1-Px.newA s m).toNat*(Bx.lns s.tab).length≤1501*4:=Nat.mul_le_mul h5 (by rw[h2];exact h3)
  omega
 clear aR aU au bu ba bc aI bg;generalize Bx.comes (Bx.lns s.tab) (Px.newA s m) m=C at *;obtain⟨i0,i1,i2,i3,i4⟩:=I.st
 by_cases h7:10000<s.next+(C.length:Int)
 ·have HM:Hid (Px.clockP s m=(Px.st0,7)):=by unfold Hid;rw[V.out,if_pos h7]
  clear V aS;obtain⟨⟨⟨u0,r0⟩,f0⟩,⟨⟨u1,r1⟩,f1⟩,⟨⟨u2,r2⟩,f2⟩,⟨⟨u3,r3⟩,f3⟩,⟨⟨u4,r4⟩,f4⟩⟩:=I.five;have U:Hid (Below w.heap.size w w4):=I.bel;clear I;go_wp2_with fail;refine bodyPost_ret (v:=.tuple #[.agg #[.string {data:= #[]},.int .i64 0,.int .i64 0,.slice none 0 0,.slice none 0 0],.int .i64 7]) (by simp[results,Tryz.results47,go_sem,r0,r1,r2,r3,r4]) rfl ⟨ChgR.err HM.out,dF U.out (by omega) _ _ _ _ _⟩
 have HM:Hid (Px.clockP s m=({C.foldl Px.arr s with clock:=m},0)):=by unfold Hid;rw[V.out,if_neg h7]
 clear V
 have bf:CkIn w (w4.alloc (pstO s (.slice ad s.slots.length Q) (.slice O s.ends.length G))) w4.heap.size s s (.slice ad s.slots.length Q) (.slice O s.ends.length G) (.slice ad s.slots.length Q) (.slice O s.ends.length G) (.slice bo C.length aG) C.length (C.reverse.flatMap arC):=
  ⟨I.later (dx _ _),PW.new w4 s (.slice ad s.slots.length Q) (.slice O s.ends.length G),aF.later (dx _ _),aS.out.later (dx _ _)⟩
 have bv:w.heap.size+1<w4.heap.size:=I.lt;clear I aF aS;go_upto_region 11 with fail;clear i0 i1 i2 i3 i4;generalize w4.alloc (pstO s (.slice ad s.slots.length Q) (.slice O s.ends.length G))=W5 at *;generalize w4.heap.size=q at *;have HK:=Hq bf;have bx:s.slots.length≤8:=HO.out.len;have bz:s.ends.length≤6:=HO.out.st.en;clear bf;go_wp2_with fail
 go_loopw [10] (fun x wr=>∃(j:Nat) (bm bt:Value),j≤C.length∧x=.int .i64 ((C.length:Int)-1-(j:Int))∧CkIn w wr q s ((C.take j).foldl Px.arr s) (.slice ad s.slots.length Q) (.slice O s.ends.length G) bm bt (.slice bo C.length aG) C.length (C.reverse.flatMap arC)) (fun x _=>(intOf x+1).toNat)
 case atStart=>exact⟨0,_,_,Nat.zero_le _,by go_num,HK.out⟩
 case round=>
  clear HK;obtain⟨j,bm,bt,hj,rfl,d⟩:=hrel;obtain⟨bR,bC,az⟩:=oe (C.take j) s bx bz;have aM:(C.take j).length=j:=by simp;omega
  rw[aM] at az
  by_cases bL:j<C.length
  ·have aB:Hid ((C.take (j+1)).foldl Px.arr s=Px.arr ((C.take j).foldl Px.arr s) C[j]):=mF C s j bL;obtain⟨k,hk⟩:∃k:Nat,(C.length:Int)-1-(j:Int)=(k:Int):=⟨C.length-1-j,by omega⟩
   have a8:k<C.reverse.length:=by rw[List.length_reverse];omega
   have a7:C.reverse[k]=C[j]:=by
    rw[List.getElem_reverse];congr 1;omega
   obtain⟨b,cm,b2,hv,_,bh⟩:=d.row.1.some' (by omega)
   cases hv
   obtain⟨d0,d1⟩:=tp bh k a8;rw[a7] at d0 d1;obtain⟨aY,aw,aH,_⟩:=d.at'.sl.form;obtain⟨aW,ar,aJ,_⟩:=d.at'.en.form;subst aH aJ;have ct:b<wr.heap.size:=World.block_lt_of_cell? _ _ d0;have bU:q<wr.heap.size:=d.pw.ty.lt;obtain⟨c0,c1,c2,c3,c4⟩:=d.pw.st;have f0:=d.pw.f 0 (by decide);have f1:=d.pw.f 1 (by decide);have f2:=d.pw.f 2 (by decide);have f3:=d.pw.f 3 (by decide);have f4:=d.pw.f 4 (by decide)
   have bS:=Hq d;have bI:=Hq hk;have cq:(0:Int)≤(k:Int):=by omega
   have cl:(k:Int)<(C.length:Int):=by omega
   have HA:Hid (PAt wr ((C.take j).foldl Px.arr s) _ _):=d.at';rw[hk];generalize (C.take j).foldl Px.arr s=t at *;generalize C[j]=p at *;have bO:t.slots.length≤10000:=by omega
   have bQ:t.ends.length≤10000:=by omega
   have bG:0≤t.next:=by omega
   have bJ:t.next≤100000:=by omega
   have aI:=Hq az;clear bh d hk aM a7 a8 az;go_wp2_with fail
   go_region_with ((go_at_call 89;refine (jb t p _ _ _ bO bQ bG bJ ?hs).mono ?_;(case hs=>exact HA.out.later (Below.refl _ _).drew);rintro e w6 ⟨⟨cr,ci,rfl,ac⟩,bk⟩;have aQ:Below wr.heap.size wr w6:=(Below.refl _ _).drew.trans bk;obtain⟨ce,cb,rfl,cf⟩:=ac.sl.form;obtain⟨b8,bX,rfl,cp⟩:=ac.en.form;obtain⟨ck,cg⟩:=dU aQ;clear bk))
   all_goals
    have bK:=(bS.out.later aQ).put bv ac;clear aQ ac;go_wp2_with fail;go_roundw
    (case rel=>exact⟨j+1,_,_,by omega,(by have h:=bI.out;congr 1;omega),by rw[aB.out];exact bK⟩)
    (case measure=>first |(simp[intOf];done)|(simp[intOf];omega))
  ·obtain rfl:j=C.length:=by omega
   have aB:Hid (C.take C.length=C):=List.take_length;rw[aB.out] at d;have hx:(C.length:Int)-1-(C.length:Int)= -1:=by omega
   rw[hx];obtain⟨aY,aw,aH,_⟩:=d.at'.sl.form;obtain⟨aW,ar,aJ,_⟩:=d.at'.en.form;subst aH aJ;clear bR bC az aM hj aB;have hA:=d.pw;have a1:=hA.st.c1;have g1:=hA.f 1 (by decide)
   have bU:=hA.ty.lt;generalize C.foldl Px.arr s=t at *;have ak:=d.res.set bv 1 (.int .i64 m);have aV:=hA.clock m;have aL:=d.at'.set hA.ty (by decide) (by decide) 1 (.int .i64 m)
   clear hA d;go_upto_region 16 with fail;clear a1 g1;generalize wr.setCell ⟨q,1,none⟩ (.int .i64 m)=W7 at *;have HX:Hid (PEnd w W7 q {t with clock:=m} (.slice aY t.slots.length aw) (.slice aW t.ends.length ar)):=⟨aV,⟨aL.sl,aL.en⟩,ak.z,ak.ty,ak.bel⟩;obtain⟨⟨⟨u0,r0⟩,f0⟩,⟨⟨u1,r1⟩,f1⟩,⟨⟨u2,r2⟩,f2⟩,⟨⟨u3,r3⟩,f3⟩,⟨⟨u4,r4⟩,f4⟩⟩:=ak.five;obtain⟨c0,c1,c2,c3,c4⟩:=aV.st;clear ak aV aL;go_wp2_with fail;refine bodyPost_ret (v:=.tuple #[pstV {t with clock:=m} (.slice aY t.slots.length aw) (.slice aW t.ends.length ar),.int .i64 0]) (by simp[results,Tryz.results47,go_sem,r0,r1,r2,r3,r4]) rfl ⟨ChgR.ok HM.out (HX.out.fin _ _ _ _ _).1,(HX.out.fin _ _ _ _ _).2⟩
end Go.Proofs.YtdajolpoiffimabGreatDoor
