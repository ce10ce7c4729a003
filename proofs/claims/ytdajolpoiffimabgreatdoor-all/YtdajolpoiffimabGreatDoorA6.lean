import Derived.Test.YtdajolpoiffimabGreatDoorA5

namespace Go.Proofs.YtdajolpoiffimabGreatDoor
open Go.RowKit
set_option maxHeartbeats 0 in
theorem rR (y m d h i k:Int) (w:World) (J:0≤i) (I:i<59):
 Calls Tryz.prog 223 #[dateV y m d h i k] w fun e G=>e=.returned (dateV y m d h (i+1) k)∧Below w.heap.size w G:=by
 have q:i+1<60:=by omega
 go_enter Tryz.func223,Tryz.ntmps223
 go_wp2_with fail;exact bodyPost_ret (v:=dateV y m d h (i+1) k) (by simp[results,Tryz.results223,go_sem]) rfl ⟨rfl,(dx _ _).alloc (by simp) _⟩
set_option maxHeartbeats 0 in
theorem rz (y m d h i k:Int) (w:World) (h1:0≤h) (hd:h<23) (hi:i=59):
 Calls Tryz.prog 223 #[dateV y m d h i k] w fun e G=>e=.returned (dateV y m d (h+1) 0 k)∧Below w.heap.size w G:=by
 have q:h+1<24:=by omega
 subst hi
 go_enter Tryz.func223,Tryz.ntmps223
 go_wp2_with fail;exact bodyPost_ret (v:=dateV y m d (h+1) 0 k) (by simp[results,Tryz.results223,go_sem]) rfl ⟨rfl,(dx _ _).alloc (by simp) _⟩
structure AftIn (w W:World) (y m d k:Int):Prop where
 bel:Below w.heap.size w W
 D:DateAt W w.heap.size y m d 0 0 k
 E:DateAt W (w.heap.size+1) 0 0 0 0 0 0
 f:∀j:Nat,j<6→W.frozen? ⟨w.heap.size,j,none⟩=false∧W.frozen? ⟨w.heap.size+1,j,none⟩=false
theorem jk (w:World) (y m d k:Int) (t:TypeId) (n:Nat):AftIn w (((w.alloc (.cells #[.int .i64 y,.int .i64 m,.int .i64 d,.int .i64 0,.int .i64 0,.int .i64 k] t)).alloc (.cells #[.int .i64 0,.int .i64 0,.int .i64 0,.int .i64 0,.int .i64 0,.int .i64 0] t)).drewN n) y m d k:=
 ⟨below_drewN ((dx _ _).alloc (by simp) _) _,by simp[DateAt,go_sem],by simp[DateAt,go_sem],fun j _=>⟨by simp[go_sem],by simp[go_sem]⟩⟩
set_option maxHeartbeats 0 in
theorem si (y m d h i k:Int) (w:World) (y1:0≤y) (y2:y≤20000) (d1:1≤d) (k1:0≤k) (k2:k≤6) (Q:h=23) (hi:i=59) (he:d<Cal.dim y m) (hd:Cal.dim y m≤31):
 Calls Tryz.prog 223 #[dateV y m d h i k] w fun e V=>e=.returned (dateV y m (d+1) 0 0 ((k+1) % 7))∧Below w.heap.size w V:=by
 have q:d+1≤Cal.dim y m:=by omega
 subst hi;subst Q
 go_enter Tryz.func223,Tryz.ntmps223
 go_wp2_with fail
 go_quiet ((go_at_call 227;exact Calls.quiet_of_same (eJ _ _ _ (by omega) (by omega))))
 have A:=jk w y m (d+1) ((k+1) % 7) 194 nq;generalize ((w.alloc (.cells #[.int .i64 y,.int .i64 m,.int .i64 (d+1),.int .i64 0,.int .i64 0,.int .i64 ((k+1) % 7)] 194)).alloc (.cells #[.int .i64 0,.int .i64 0,.int .i64 0,.int .i64 0,.int .i64 0,.int .i64 0] 194)).drewN nq=W at *;obtain⟨bel,⟨c0,c1,c2,c3,c4,c5⟩,⟨r0,r1,G,I,J,O⟩,f⟩:=A;have U:=Hq bel;obtain⟨f0,Y⟩:=f 0 (by decide)
 obtain⟨f1,Z⟩:=f 1 (by decide)
 obtain⟨f2,g2⟩:=f 2 (by decide)
 obtain⟨f3,g3⟩:=f 3 (by decide)
 obtain⟨f4,g4⟩:=f 4 (by decide)
 obtain⟨f5,g5⟩:=f 5 (by decide)
 clear bel f;go_wp2_with fail;refine bodyPost_ret (v:=dateV y m (d+1) 0 0 ((k+1) % 7)) (by simp[results,Tryz.results223,go_sem,r0,r1,G,I,J,O]) rfl ⟨rfl,?_⟩
 repeat (refine Below.setCell ?_ (by simp) _)
 exact U.out
set_option maxHeartbeats 0 in
theorem rZ (y m d h i k:Int) (w:World) (y1:0≤y) (y2:y≤20000) (d1:1≤d) (k1:0≤k) (k2:k≤6) (Q:h=23) (hi:i=59) (Y:d=Cal.dim y m) (m1:1≤m) (hf:m<12) (hd:Cal.dim y m≤31):
 Calls Tryz.prog 223 #[dateV y m d h i k] w fun e V=>e=.returned (dateV y (m+1) 1 0 0 ((k+1) % 7))∧Below w.heap.size w V:=by
 have q:¬d+1≤Cal.dim y m:=by omega
 have d2:d≤31:=by omega
 clear Y;have q2:¬12<m+1:=by omega
 subst hi;subst Q
 go_enter Tryz.func223,Tryz.ntmps223
 go_wp2_with fail
 go_quiet ((go_at_call 227;exact Calls.quiet_of_same (eJ _ _ _ (by omega) (by omega))))
 have A:=jk w y m (d+1) ((k+1) % 7) 194 nq;generalize ((w.alloc (.cells #[.int .i64 y,.int .i64 m,.int .i64 (d+1),.int .i64 0,.int .i64 0,.int .i64 ((k+1) % 7)] 194)).alloc (.cells #[.int .i64 0,.int .i64 0,.int .i64 0,.int .i64 0,.int .i64 0,.int .i64 0] 194)).drewN nq=W at *;obtain⟨bel,⟨c0,c1,c2,c3,c4,c5⟩,⟨r0,r1,G,I,J,O⟩,f⟩:=A;have U:=Hq bel;obtain⟨f0,Z⟩:=f 0 (by decide)
 obtain⟨f1,g1⟩:=f 1 (by decide)
 obtain⟨f2,g2⟩:=f 2 (by decide)
 obtain⟨f3,g3⟩:=f 3 (by decide)
 obtain⟨f4,g4⟩:=f 4 (by decide)
 obtain⟨f5,g5⟩:=f 5 (by decide)
 clear bel f;go_wp2_with fail;refine bodyPost_ret (v:=dateV y (m+1) 1 0 0 ((k+1) % 7)) (by simp[results,Tryz.results223,go_sem,r0,r1,G,I,J,O]) rfl ⟨rfl,?_⟩
 repeat (refine Below.setCell ?_ (by simp) _)
 exact U.out
set_option maxHeartbeats 0 in
theorem rj (y m d h i k:Int) (w:World) (y1:0≤y) (y2:y≤20000) (d1:1≤d) (k1:0≤k) (k2:k≤6) (Y:h=23) (hi:i=59) (J:d=Cal.dim y m) (m1:12≤m) (hf:m≤12) (hd:Cal.dim y m≤31):
 Calls Tryz.prog 223 #[dateV y m d h i k] w fun e U=>e=.returned (dateV (y+1) 1 1 0 0 ((k+1) % 7))∧Below w.heap.size w U:=by
 have q:¬d+1≤Cal.dim y m:=by omega
 have d2:d≤31:=by omega
 clear J;have q2:12<m+1:=by omega
 subst hi;subst Y
 go_enter Tryz.func223,Tryz.ntmps223
 go_wp2_with fail
 go_quiet ((go_at_call 227;exact Calls.quiet_of_same (eJ _ _ _ (by omega) (by omega))))
 have A:=jk w y m (d+1) ((k+1) % 7) 194 nq;generalize ((w.alloc (.cells #[.int .i64 y,.int .i64 m,.int .i64 (d+1),.int .i64 0,.int .i64 0,.int .i64 ((k+1) % 7)] 194)).alloc (.cells #[.int .i64 0,.int .i64 0,.int .i64 0,.int .i64 0,.int .i64 0,.int .i64 0] 194)).drewN nq=W at *;obtain⟨bel,⟨c0,c1,c2,c3,c4,c5⟩,⟨r0,r1,V,O,G,I⟩,f⟩:=A;have Q:=Hq bel;obtain⟨f0,g0⟩:=f 0 (by decide)
 obtain⟨f1,g1⟩:=f 1 (by decide)
 obtain⟨f2,g2⟩:=f 2 (by decide)
 obtain⟨f3,g3⟩:=f 3 (by decide)
 obtain⟨f4,g4⟩:=f 4 (by decide)
 obtain⟨f5,g5⟩:=f 5 (by decide)
 clear bel f
 have Z:(((W.setCell ⟨w.heap.size,2,none⟩ (.int .i64 1)).setCell ⟨w.heap.size,1,none⟩ (.int .i64 (m+1))).setCell ⟨w.heap.size,1,none⟩ (.int .i64 1)).cell? ⟨w.heap.size,1,none⟩=some (.int .i64 1):=
  World.cell?_setCell_same' _ _ _ (by rw[World.cell?_setCell_same' _ _ _ (by rw[World.cell?_setCell_other _ _ _ _ (by simp),c1];rfl)];rfl)
 go_wp2_with fail;refine bodyPost_ret (v:=dateV (y+1) 1 1 0 0 ((k+1) % 7)) (by simp[results,Tryz.results223,go_sem,r0,r1,V,O,G,I]) rfl ⟨rfl,?_⟩
 repeat (refine Below.setCell ?_ (by simp) _)
 exact Q.out
abbrev stV (s:Bx.St) (sl en:Value):Value:=.agg #[.string s.tab,.int .i64 s.clock,.int .i64 s.next,sl,en]
structure StAt (w:World) (s:Bx.St) (sl en:Value):Prop where
 sl:TRow w 218 sl s.slots.length (s.slots.flatMap slC)
 en:TRow w 85 en s.ends.length (s.ends.flatMap enC)
theorem StAt.set {w:World}{s:Bx.St}{sl en:Value} (h:StAt w s sl en) {g:Nat}{e:TypeId} (d:Typed w g e) (h1:218≠e) (h2:85≠e) (o:Nat) (u:Value):StAt (w.setCell ⟨g,o,none⟩ u) s sl en:=⟨h.sl.set d h1 o u,h.en.set d h2 o u⟩
theorem StAt.later {w d:World}{s:Bx.St}{sl en:Value} (h:StAt w s sl en) (hb:Below w.heap.size w d):StAt d s sl en:=⟨h.sl.later hb,h.en.later hb⟩
abbrev stO (s:Bx.St) (sl en:Value):Obj:=.cells #[.string s.tab,.int .i64 s.clock,.int .i64 s.next,sl,en] 130
structure StIn (W:World) (q:Nat) (s:Bx.St) (sl en:Value):Prop where
 c0:W.cell? ⟨q,0,none⟩=some (.string s.tab)
 c1:W.cell? ⟨q,1,none⟩=some (.int .i64 s.clock)
 c2:W.cell? ⟨q,2,none⟩=some (.int .i64 s.next)
 c3:W.cell? ⟨q,3,none⟩=some sl
 c4:W.cell? ⟨q,4,none⟩=some en
theorem StIn.new (w:World) (s:Bx.St) (sl en:Value):StIn (w.alloc (stO s sl en)) w.heap.size s sl en:=⟨by simp[go_sem],by simp[go_sem],by simp[go_sem],by simp[go_sem],by simp[go_sem]⟩
theorem StIn.later {W W':World}{q:Nat}{s:Bx.St}{sl en:Value} (h:StIn W q s sl en) (hb:Below W.heap.size W W'):StIn W' q s sl en:=
 ⟨cell_later hb h.c0,cell_later hb h.c1,cell_later hb h.c2,cell_later hb h.c3,cell_later hb h.c4⟩
theorem nJ {l:List Bx.Sl}{n:Int}{k:Nat} (h:k<l.length) (e:(l[k].num==n)=true):Bx.findK l n (k+1)=k:=by
 have:l[k].num=n:=by simpa using e
 simp[Bx.findK,h,this]
theorem m9 {l:List Bx.Sl}{n:Int}{k:Nat} (h:k<l.length) (e:(l[k].num==n)=false):Bx.findK l n (k+1)=Bx.findK l n k:=by
 have:¬l[k].num=n:=by simpa using e
 simp[Bx.findK,h,this]
set_option maxHeartbeats 0 in
theorem eY (s:Bx.St) (n:Int) (sl en:Value) (w:World) (hl:s.slots.length≤10000) (hS:StAt w s sl en):
 Calls Tryz.prog 114 #[stV s sl en,.int .i64 n] w fun e w'=>e=.returned (.int .i64 (Bx.find s n))∧Below w.heap.size w w':=by
 obtain⟨V,I,rfl,af⟩:=hS.sl.form;obtain⟨O,d,rfl,ae⟩:=hS.en.form;have Q:=Hq hS.sl.1;clear hS
 go_enter Tryz.func114,Tryz.ntmps114
 go_wp2_with fail;have G:=dx w (stO s (.slice V s.slots.length I) (.slice O s.ends.length d));have hI:=StIn.new w s (.slice V s.slots.length I) (.slice O s.ends.length d);have U:=Q.out.later G;clear Q;generalize w.alloc (stO s (.slice V s.slots.length I) (.slice O s.ends.length d))=W at *;have Q:=Hq U;have HB:=Hq G;have c3:=hI.c3;clear hI U G
 go_loop [5,6] (fun a i=>∃k:Nat,k≤s.slots.length∧i=.int .i64 k∧a=.int .i64 (Bx.findK s.slots n k)) (fun _ i=>s.slots.length-(intOf i).toNat)
 case atStart=>exact⟨0,Nat.zero_le _,rfl,rfl⟩
 case round=>
  obtain⟨k,hk,rfl,rfl⟩:=hrel
  by_cases J:k<s.slots.length
  ·obtain⟨b,ac,aj,hv,_,Z⟩:=Q.out.some' (by omega)
   cases hv
   have c0:W.cell? ⟨b,ac+k*6,none⟩=some (.int .i64 s.slots[k].num):=RowAt.cell ep Z k J 0 (by decide)
   clear Z;have b1:(0:Int)≤(k:Int):=by omega
   have b2:(k:Int)<(s.slots.length:Int):=by omega
   cases he:(s.slots[k].num==n)
   ·have Y:Hid (Bx.findK s.slots n (k+1)=Bx.findK s.slots n k):=m9 J he;generalize s.slots[k].num=x at *;go_wp2_with fail
    go_round
    case rel=>exact⟨k+1,by omega,by go_num,by rw[Y.out]⟩
    case measure=>simp[intOf];omega
   ·have Y:Hid (Bx.findK s.slots n (k+1)=k):=nJ J he;generalize s.slots[k].num=x at *;go_wp2_with fail
    go_round
    case rel=>exact⟨k+1,by omega,by go_num,by rw[Y.out]⟩
    case measure=>simp[intOf];omega
  ·obtain rfl:k=s.slots.length:=by omega
   go_wp2_with fail;go_ret;exact⟨rfl,HB.out⟩
set_option maxHeartbeats 0 in
theorem ew (s:ByteArray) (w:World) (G:s.size≤300) (d:LineP s):
 Calls Tryz.prog 202 #[.string s] w fun e J=>e=.returned (.tuple #[.bool (ob s 0==120),.int .u8 (ob s 1),.int .i64 (ob s 2-48)])∧Below w.heap.size w J:=by
 obtain⟨hz,_,_,o1,o2⟩:=jf d;have V:=d.n7;have U:=d.n11;clear d
 go_enter Tryz.func202,Tryz.ntmps202
 go_wp2_with fail;refine (eO _ _ _ G).mono ?_;rintro e w1 ⟨⟨b,O,rfl,Q,I,hS⟩,hb⟩;have c:w1.cell? ⟨b,5,none⟩=some (.string (pt s 5)):=by rw[←eN (by omega)];exact hS 5 (by omega)
 clear hS;have Z:=ip (s:=s) (i:=0) (by omega)
 have Y:=ip (s:=s) (i:=1) (by omega)
 have e2:=ip (s:=s) (i:=2) (by omega)
 go_wp2_with fail
 go_quiet (fail)
 go_wp2_with fail
 go_ret3
 exact⟨rfl,below_drewN hb _⟩
set_option maxHeartbeats 0 in
theorem jB (s:Bx.St) (m:Int) (sl en:Value) (w:World) (ad: -1≤s.clock) (ab:s.clock≤4223371679) (hS:StAt w s sl en):
 Calls Tryz.prog 145 #[stV s sl en,.int .i64 m] w fun e w'=>e=.returned (.bool (Bx.ahead s m))∧Below w.heap.size w w':=by
 obtain⟨U,O,rfl,ag⟩:=hS.sl.form;obtain⟨V,J,rfl,af⟩:=hS.en.form;clear hS;obtain⟨a,Z⟩:∃a:Bool,a=Bx.ahead s m:=⟨_,rfl⟩;have G:Hid (a=decide (0≤m∧m≤4223371679∧s.clock<m∧(s.clock= -1∨m-s.clock≤1500))):=Z;rw[←Z];clear Z
 go_enter Tryz.func145,Tryz.ntmps145
 go_wp2_with fail;refine (fO _ _).mono ?_;rintro e w1 ⟨rfl,rfl⟩;have I:Hid (Below w.heap.size w _):=dx w (stO s (.slice U s.slots.length O) (.slice V s.ends.length J));have hI:=StIn.new w s (.slice U s.slots.length O) (.slice V s.ends.length J);generalize w.alloc (stO s (.slice U s.slots.length O) (.slice V s.ends.length J))=W at *;have c1:=hI.c1;clear hI;obtain⟨t,ht⟩:∃t:Int,t=s.clock:=⟨_,rfl⟩;rw[←ht] at G c1 ad ab;clear ht
 by_cases h1:0≤m∧m≤4223371679
 ·rw[gy h1.1 h1.2];obtain⟨h1,h2⟩:=h1
  by_cases Y:t<m
  ·have q3:decide (t<m)=true:=decide_eq_true Y
   by_cases Q:t= -1
   ·have d:Hid (a=true):=by rw[G.out];exact decide_eq_true ⟨h1,h2,Y,Or.inl Q⟩
    have q4:(t== -1)=true:=by simpa using Q
    clear Q G;go_wp2_with fail;go_ret;exact⟨dz d.out.symm,I.out⟩
   ·have q4:(t== -1)=false:=by simpa using Q
    have q5:IntKind.i64.wrap (m-t)=m-t:=by rw[IntKind.wrap_i64];omega
    by_cases h5:m-t≤1500
    ·have d:Hid (a=true):=by rw[G.out];exact decide_eq_true ⟨h1,h2,Y,Or.inr h5⟩
     clear Q G;go_wp2_with fail;go_ret;exact⟨dz d.out.symm,I.out⟩
    ·have d:Hid (decide (m-t≤1500)=a):=by rw[G.out,decide_eq_false h5];exact (decide_eq_false (by omega)).symm
     clear Q G;go_wp2_with fail;go_ret;exact⟨dz d.out,I.out⟩
  ·have q3:decide (t<m)=false:=decide_eq_false Y;have d:Hid (a=false):=by rw[G.out];exact decide_eq_false (by omega)
   clear G;go_wp2_with fail;go_ret;exact⟨dz d.out.symm,I.out⟩
 ·rw[il (by omega)]
  have d:Hid (a=false):=by rw[G.out];exact decide_eq_false (by omega)
  clear G h1;go_wp2_with fail;go_ret;exact⟨dz d.out.symm,I.out⟩
theorem fP:(Tryz.prog.info? 218).map (fun i=>(i.zero,i.size,i.bytes))=some (some (.agg #[.int .i64 0,.int .i64 0,.int .i64 0,.int .i64 0,.int .i64 0,.bool false]),6,48):=by kernel_rfl
theorem oi {l:List Bx.Sl}{a:Int}{k:Nat} (e:((k:Int)==a)=true):Bx.skipK l a (k+1)=Bx.skipK l a k:=by
 have:(k:Int)=a:=by simpa using e
 simp[Bx.skipK,this]
theorem ms {l:List Bx.Sl}{a:Int}{k:Nat} (h:k<l.length) (e:((k:Int)==a)=false):Bx.skipK l a (k+1)=Bx.skipK l a k++[l[k]]:=by
 have:¬(k:Int)=a:=by simpa using e
 simp[Bx.skipK,this,h]
theorem fM {w:World}{G d:Nat}{e:TypeId}{size:Nat}{v:Value}{n:Nat}{J:List Value} (h:w.ownsRow G e size v n J) (hb:d≤G):w.ownsRow d e size v n J:=by
 refine⟨h.1,?_⟩
 rcases h.2 with h2|⟨g,I,cur,Q,hbase,O⟩
 ·exact Or.inl h2
 ·exact Or.inr ⟨g,I,cur,Q,Nat.le_trans hb hbase,O⟩
theorem dT {w:World}{L:List Bx.Sl}{b d:Nat} (c:∀j (h:j<(L.flatMap slC).length),w.cell? ⟨b,d+j,none⟩=some (L.flatMap slC)[j]) (i:Nat) (hi:i<L.length):
 w.cell? ⟨b,d+i*6,none⟩=some (.int .i64 L[i].num)∧w.cell? ⟨b,d+i*6+1,none⟩=some (.int .i64 L[i].line)∧w.cell? ⟨b,d+i*6+2,none⟩=some (.int .i64 L[i].minute)∧
 w.cell? ⟨b,d+i*6+3,none⟩=some (.int .i64 L[i].att)∧w.cell? ⟨b,d+i*6+4,none⟩=some (.int .i64 L[i].frm)∧w.cell? ⟨b,d+i*6+5,none⟩=some (.bool L[i].runs):=
 ⟨RowAt.cell ep c i hi 0 (by decide),RowAt.cell ep c i hi 1 (by decide),RowAt.cell ep c i hi 2 (by decide),RowAt.cell ep c i hi 3 (by decide),RowAt.cell ep c i hi 4 (by decide),RowAt.cell ep c i hi 5 (by decide)⟩
theorem fg (w:World) (x:Bx.Sl) (t:TypeId):∀j u,(slC x)[j]? =some u→(w.alloc (.cells #[.int .i64 x.num,.int .i64 x.line,.int .i64 x.minute,.int .i64 x.att,.int .i64 x.frm,.bool x.runs] t)).cell? ((⟨w.heap.size,0,none⟩:Addr).add j)=some u:=by
 intro j u d
 match j,d with
 | 0,d=>simp[slC] at d;subst d;simp[Addr.add,go_sem]
 | 1,d=>simp[slC] at d;subst d;simp[Addr.add,go_sem]
 | 2,d=>simp[slC] at d;subst d;simp[Addr.add,go_sem]
 | 3,d=>simp[slC] at d;subst d;simp[Addr.add,go_sem]
 | 4,d=>simp[slC] at d;subst d;simp[Addr.add,go_sem]
 | 5,d=>simp[slC] at d;subst d;simp[Addr.add,go_sem]
theorem fc (x:Bx.Sl):∀u∈slC x,u.oneCell'=true:=by
 intro u d;simp[slC] at d;rcases d with rfl|rfl|rfl|rfl|rfl|rfl<;>rfl
set_option maxHeartbeats 0 in
theorem fy (s:Bx.St) (a:Int) (sl en:Value) (w:World) (hl:s.slots.length≤10000) (hS:StAt w s sl en):
 Calls Tryz.prog 216 #[stV s sl en,.int .i64 a] w fun e w'=>(∃v,e=.returned v∧w'.ownsRow w.heap.size 218 6 v (Bx.withoutL s.slots a).length ((Bx.withoutL s.slots a).flatMap slC))∧Below w.heap.size w w':=by
 obtain⟨i0,hi,au,al,ai⟩:=info_parts fP;obtain⟨Z,J,rfl,ay⟩:=hS.sl.form;obtain⟨U,I,rfl,aw⟩:=hS.en.form;have HR:=Hq hS.sl.1;clear hS
 go_enter Tryz.func216,Tryz.ntmps216
 go_wp2_with fail;have Y:=dx w (stO s (.slice Z s.slots.length J) (.slice U s.ends.length I));have hI:=StIn.new w s (.slice Z s.slots.length J) (.slice U s.ends.length I);have hq:w.heap.size<(w.alloc (stO s (.slice Z s.slots.length J) (.slice U s.ends.length I))).heap.size:=by simp
 generalize w.alloc (stO s (.slice Z s.slots.length J) (.slice U s.ends.length I))=W at *;have HB:=Hq Y;have av:=Hq (HR.out.later Y);have HI:=Hq hI;clear hI Y
 go_loopw [5,6] (fun v i wr=>∃k:Nat,k≤s.slots.length∧i=.int .i64 k∧wr.ownsRow W.heap.size 218 6 v (Bx.skipK s.slots a k).length ((Bx.skipK s.slots a k).flatMap slC)∧Below W.heap.size W wr) (fun _ i _=>s.slots.length-(intOf i).toNat)
 case atStart=>exact⟨0,Nat.zero_le _,rfl,World.ownsRow_nil _ _ _ _,Below.refl _ _⟩
 case round=>
  obtain⟨k,hk,rfl,d,G⟩:=hrel;have ao:=G.size;have c3:=(HI.out.later G).c3
  by_cases ab:k<s.slots.length
  ·obtain⟨b,aG,aF,hv,_,hc⟩:=(av.out.later G).some' (by omega)
   cases hv
   obtain⟨d0,d1,d2,d3,d4,d5⟩:=dT hc k ab;clear hc;have b1:(0:Int)≤(k:Int):=by omega
   have b2:(k:Int)<(s.slots.length:Int):=by omega
   cases V:((k:Int)==a)
   ·have HF:Hid (Bx.skipK s.slots a (k+1)=Bx.skipK s.slots a k++[s.slots[k]]):=ms ab V;have hn:=Bx.skipK_len s.slots a k;have am:((k:Int) !=a)=true:=by simp[bne,V]
    clear V;generalize s.slots[k]=x at *;generalize Bx.skipK s.slots a k=L at *;go_wp2_with (at_builtin;refine wpList_append_lies _ rfl (.tmp 17) (.tmp 23) 128 rfl W.heap.size 218 i0 (.agg #[.int .i64 0,.int .i64 0,.int .i64 0,.int .i64 0,.int .i64 0,.bool false]) 6 48 Tryz.underlying128 hi au al ai rfl (by decide) _ _ _ rfl (d.alloc _) ⟨wr.heap.size,0,none⟩ 1 1 (slC x) rfl rfl (fg _ _ _) (fc x) (by decide) ?c3 ?c4 ?c5 _ rfl ?_)
    case c3=>unfold maxLen;omega
    case c4=>omega
    case c5=>simp;omega
    ·intro g ac w1 Q O _ aB;have B1:Below W.heap.size W w1:=(G.alloc ao _).grown O (by simp;omega) (fun k' e=>(d.lt k' e).1)
     have aa:w1.ownsRow W.heap.size 218 6 (.slice (some ⟨g,0,none⟩) (L.length+1) ac) (L++[x]).length ((L++[x]).flatMap slC):=by simpa using Q
     clear Q O d G d0 d1 d2 d3 d4 d5 c3;go_wp2_with fail;go_roundw
     case rel=>exact⟨k+1,by omega,by go_num,by rw[HF.out];exact aa,B1⟩
     case measure=>simp[intOf];omega
   ·have HF:Hid (Bx.skipK s.slots a (k+1)=Bx.skipK s.slots a k):=oi V;clear d0 d1 d2 d3 d4 d5;have am:((k:Int) !=a)=false:=by simp[bne,V]
    clear V;go_wp2_with fail;go_roundw
    case rel=>exact⟨k+1,by omega,by go_num,by rw[HF.out];exact d,G⟩
    case measure=>simp[intOf];omega
  ·obtain rfl:k=s.slots.length:=by omega
   go_wp2_with fail;go_ret;exact⟨⟨_,rfl,fM d (by omega)⟩,HB.out.trans (G.mono HB.out.size)⟩
abbrev slV (x:Bx.Sl):Value:=.agg #[.int .i64 x.num,.int .i64 x.line,.int .i64 x.minute,.int .i64 x.att,.int .i64 x.frm,.bool x.runs]
abbrev slO (x:Bx.Sl):Obj:=.cells #[.int .i64 x.num,.int .i64 x.line,.int .i64 x.minute,.int .i64 x.att,.int .i64 x.frm,.bool x.runs] 218
theorem qQ {l:List Bx.Sl}{a:Int}{x:Bx.Sl}{k:Nat} (e:((k:Int)==a)=true):Bx.putK l a x (k+1)=Bx.putK l a x k++[x]:=by
 have:(k:Int)=a:=by simpa using e
 simp[Bx.putK,this]
theorem oQ {l:List Bx.Sl}{a:Int}{x:Bx.Sl}{k:Nat} (h:k<l.length) (e:((k:Int)==a)=false):Bx.putK l a x (k+1)=Bx.putK l a x k++[l[k]]:=by
 have:¬(k:Int)=a:=by simpa using e
 simp[Bx.putK,this,h]
structure SlIn (W:World) (q:Nat) (x:Bx.Sl):Prop where
 c0:W.cell? ⟨q,0,none⟩=some (.int .i64 x.num)
 c1:W.cell? ⟨q,1,none⟩=some (.int .i64 x.line)
 c2:W.cell? ⟨q,2,none⟩=some (.int .i64 x.minute)
 c3:W.cell? ⟨q,3,none⟩=some (.int .i64 x.att)
 c4:W.cell? ⟨q,4,none⟩=some (.int .i64 x.frm)
 c5:W.cell? ⟨q,5,none⟩=some (.bool x.runs)
theorem SlIn.new (w:World) (x:Bx.Sl):SlIn (w.alloc (slO x)) w.heap.size x:=⟨by simp[go_sem],by simp[go_sem],by simp[go_sem],by simp[go_sem],by simp[go_sem],by simp[go_sem]⟩
theorem SlIn.later {W W':World}{q:Nat}{x:Bx.Sl} (h:SlIn W q x) (hb:Below W.heap.size W W'):SlIn W' q x:=
 ⟨cell_later hb h.c0,cell_later hb h.c1,cell_later hb h.c2,cell_later hb h.c3,cell_later hb h.c4,cell_later hb h.c5⟩
set_option maxHeartbeats 0 in
theorem jm (s:Bx.St) (a:Int) (x:Bx.Sl) (sl en:Value) (w:World) (hl:s.slots.length≤10000) (hS:StAt w s sl en):
 Calls Tryz.prog 173 #[stV s sl en,.int .i64 a,slV x] w fun e w'=>(∃v,e=.returned v∧w'.ownsRow w.heap.size 218 6 v (Bx.putL s.slots a x).length ((Bx.putL s.slots a x).flatMap slC))∧Below w.heap.size w w':=by
 obtain⟨i0,hi,ah,ae,ab⟩:=info_parts fP;obtain⟨Z,Q,rfl,aC⟩:=hS.sl.form;obtain⟨U,O,rfl,aB⟩:=hS.en.form;have HR:=Hq hS.sl.1;clear hS
 go_enter Tryz.func173,Tryz.ntmps173
 go_wp2_with fail;have aa:=(dx w (stO s (.slice Z s.slots.length Q) (.slice U s.ends.length O))).alloc (by simp) (slO x)
 have hI:=(StIn.new w s (.slice Z s.slots.length Q) (.slice U s.ends.length O)).later (dx _ (slO x));have hX:=SlIn.new (w.alloc (stO s (.slice Z s.slots.length Q) (.slice U s.ends.length O))) x;have af:SlIn ((w.alloc (stO s (.slice Z s.slots.length Q) (.slice U s.ends.length O))).alloc (slO x)) (w.heap.size+1) x:=by simpa using hX
 have hq:w.heap.size+1<((w.alloc (stO s (.slice Z s.slots.length Q) (.slice U s.ends.length O))).alloc (slO x)).heap.size:=by simp
 clear hX;generalize (w.alloc (stO s (.slice Z s.slots.length Q) (.slice U s.ends.length O))).alloc (slO x)=W at *;have HB:=Hq aa;have aA:=Hq (HR.out.later aa);have HI:=Hq hI;have HX:=Hq af;clear hI aa af
 go_loopw [7,8] (fun v i wr=>∃k:Nat,k≤s.slots.length∧i=.int .i64 k∧wr.ownsRow W.heap.size 218 6 v (Bx.putK s.slots a x k).length ((Bx.putK s.slots a x k).flatMap slC)∧Below W.heap.size W wr) (fun _ i _=>s.slots.length-(intOf i).toNat)
 case atStart=>exact⟨0,Nat.zero_le _,rfl,World.ownsRow_nil _ _ _ _,Below.refl _ _⟩
 case round=>
  obtain⟨k,hk,rfl,d,J⟩:=hrel;have ag:=J.size;have c3:=(HI.out.later J).c3
  by_cases ac:k<s.slots.length
  ·have b1:(0:Int)≤(k:Int):=by omega
   have b2:(k:Int)<(s.slots.length:Int):=by omega
   have hn:=Bx.putK_len s.slots a x k
   cases he:((k:Int)==a)
   ·have HF:Hid (Bx.putK s.slots a x (k+1)=Bx.putK s.slots a x k++[s.slots[k]]):=oQ ac he;obtain⟨b,aI,aH,hv,_,hc⟩:=(aA.out.later J).some' (by omega)
    cases hv
    obtain⟨d0,d1,d2,d3,d4,d5⟩:=dT hc k ac;clear hc;generalize s.slots[k]=y at *;generalize Bx.putK s.slots a x k=L at *;go_wp2_with (at_builtin;refine wpList_append_lies _ rfl (.tmp 23) (.tmp 29) 128 rfl W.heap.size 218 i0 (.agg #[.int .i64 0,.int .i64 0,.int .i64 0,.int .i64 0,.int .i64 0,.bool false]) 6 48 Tryz.underlying128 hi ah ae ab rfl (by decide) _ _ _ rfl (d.alloc _) ⟨wr.heap.size,0,none⟩ 1 1 (slC y) rfl rfl (fg _ _ _) (fc y) (by decide) ?c3 ?c4 ?c5 _ rfl ?_)
    case c3=>unfold maxLen;omega
    case c4=>omega
    case c5=>simp;omega
    ·intro g Y w1 I G _ ak;have B1:Below W.heap.size W w1:=(J.alloc ag _).grown G (by simp;omega) (fun k' e=>(d.lt k' e).1)
     have V:w1.ownsRow W.heap.size 218 6 (.slice (some ⟨g,0,none⟩) (L.length+1) Y) (L++[y]).length ((L++[y]).flatMap slC):=by simpa using I
     clear I G d J d0 d1 d2 d3 d4 d5 c3;go_wp2_with fail;go_roundw
     case rel=>exact⟨k+1,by omega,by go_num,by rw[HF.out];exact V,B1⟩
     case measure=>simp[intOf];omega
   ·have HF:Hid (Bx.putK s.slots a x (k+1)=Bx.putK s.slots a x k++[x]):=qQ he;obtain⟨d0,d1,d2,d3,d4,d5⟩:=HX.out.later J;generalize Bx.putK s.slots a x k=L at *;go_wp2_with (at_builtin;refine wpList_append_lies _ rfl (.tmp 19) (.tmp 21) 128 rfl W.heap.size 218 i0 (.agg #[.int .i64 0,.int .i64 0,.int .i64 0,.int .i64 0,.int .i64 0,.bool false]) 6 48 Tryz.underlying128 hi ah ae ab rfl (by decide) _ _ _ rfl (d.alloc _) ⟨wr.heap.size,0,none⟩ 1 1 (slC x) rfl rfl (fg _ _ _) (fc x) (by decide) ?c3 ?c4 ?c5 _ rfl ?_)
    case c3=>unfold maxLen;omega
    case c4=>omega
    case c5=>simp;omega
    ·intro g Y w1 I G _ ak;have B1:Below W.heap.size W w1:=(J.alloc ag _).grown G (by simp;omega) (fun k' e=>(d.lt k' e).1)
     have V:w1.ownsRow W.heap.size 218 6 (.slice (some ⟨g,0,none⟩) (L.length+1) Y) (L++[x]).length ((L++[x]).flatMap slC):=by simpa using I
     clear I G d J d0 d1 d2 d3 d4 d5 c3;go_wp2_with fail;go_roundw
     case rel=>exact⟨k+1,by omega,by go_num,by rw[HF.out];exact V,B1⟩
     case measure=>simp[intOf];omega
  ·obtain rfl:k=s.slots.length:=by omega
   go_wp2_with fail;go_ret;exact⟨⟨_,rfl,fM d (by omega)⟩,HB.out.trans (J.mono HB.out.size)⟩
theorem lU:(Tryz.prog.info? 85).map (fun i=>(i.zero,i.size,i.bytes))=some (some (.agg #[.int .i64 0,.string ByteArray.empty]),2,24):=by kernel_rfl
set_option maxHeartbeats 0 in
theorem rL (s:Bx.St) (I:Value) (Q:Nat) (n:Int) (how:ByteArray) (sl en:Value) (w:World) (hn:n≤0) (O:Option Addr) (d:Nat) (J:I=.slice O Q d) (hS:StAt w s sl en):
 Calls Tryz.prog 215 #[stV s sl en,I,.int .i64 n,.string how] w fun e w'=>e=.returned (stV s I en)∧Below w.heap.size w w':=by
 subst J;obtain⟨ab,Z,rfl,Y⟩:=hS.sl.form;obtain⟨U,G,rfl,V⟩:=hS.en.form;clear hS
 go_enter Tryz.func215,Tryz.ntmps215
 go_wp2_with fail;refine bodyPost_ret (v:=stV s (.slice O Q d) (.slice U s.ends.length G)) (by simp[results,Tryz.results215,go_sem]) rfl ⟨rfl,?_⟩
 exact (dx _ _).alloc (by simp) _
structure WIn (W:World) (q:Nat) (s:Bx.St) (sl en:Value):Prop where
 st:StIn W q s sl en
 f4:W.frozen? ⟨q,4,none⟩=false
 rs:∀j:Nat,j<5→(∃u,W.cell? ⟨q+1,j,none⟩=some u)∧W.frozen? ⟨q+1,j,none⟩=false
theorem WIn.later {W W':World}{q:Nat}{s:Bx.St}{sl en:Value} (h:WIn W q s sl en) (w:q+1<W.heap.size) (hb:Below W.heap.size W W'):WIn W' q s sl en:=
 ⟨h.st.later hb,(hb.frozen (p:=⟨q,4,none⟩) (by simp;omega)).trans h.f4,fun j d=>⟨(h.rs j d).1.elim fun u e=>⟨u,cell_later hb e⟩,(hb.frozen (p:=⟨q+1,j,none⟩) w).trans (h.rs j d).2⟩⟩
theorem oy (l:List Bx.En) (d k:Nat) (h:k<l.length):(l.take (k+1)).drop d=if d≤k then (l.take k).drop d++[l[k]] else (l.take k).drop d:=by
 rw[List.take_succ_eq_append_getElem h]
 split
 ·rw[List.drop_append_of_le_length (by simp;omega)]
 ·rw[List.drop_eq_nil_of_le (by simp;omega),List.drop_eq_nil_of_le (by simp;omega)]
theorem fW {w:World}{L:List Bx.En}{b d:Nat} (c:∀j (h:j<(L.flatMap enC).length),w.cell? ⟨b,d+j,none⟩=some (L.flatMap enC)[j]) (i:Nat) (hi:i<L.length):
 w.cell? ⟨b,d+i*2,none⟩=some (.int .i64 L[i].num)∧w.cell? ⟨b,d+i*2+1,none⟩=some (.string L[i].how):=
 ⟨RowAt.cell ek c i hi 0 (by decide),RowAt.cell ek c i hi 1 (by decide)⟩
theorem jj (w:World) (x:Bx.En) (t:TypeId):∀j u,(enC x)[j]? =some u→(w.alloc (.cells #[.int .i64 x.num,.string x.how] t)).cell? ((⟨w.heap.size,0,none⟩:Addr).add j)=some u:=by
 intro j u d
 match j,d with
 | 0,d=>simp[enC] at d;subst d;simp[Addr.add,go_sem]
 | 1,d=>simp[enC] at d;subst d;simp[Addr.add,go_sem]
theorem jq (x:Bx.En):∀u∈enC x,u.oneCell'=true:=by
 intro u d;simp[enC] at d;rcases d with rfl|rfl<;>rfl
set_option maxHeartbeats 0 in
theorem qO (s:Bx.St) (lv:Value) (Y:Nat) (n:Int) (how:ByteArray) (sl en:Value) (w:World) (hn:0<n) (Z:Option Addr) (J:Nat) (aG:lv=.slice Z Y J) (hE:s.ends.length≤10000) (hS:StAt w s sl en):
 Calls Tryz.prog 215 #[stV s sl en,lv,.int .i64 n,.string how] w fun e w'=>(∃al,e=.returned (stV s lv al)∧TRow w' 85 al (Bx.push s.ends ⟨n,how⟩).length ((Bx.push s.ends ⟨n,how⟩).flatMap enC))∧Below w.heap.size w w':=by
 subst aG;obtain⟨i0,hi,ap,ak,aj⟩:=info_parts lU;obtain⟨a4,V,rfl,aR⟩:=hS.sl.form;obtain⟨U,d,rfl,aL⟩:=hS.en.form;have HR:=Hq hS.en.1;clear hS
 go_enter Tryz.func215,Tryz.ntmps215
 go_wp2_with fail;have ae:=(dx w (stO s (.slice Z Y J) (.slice U s.ends.length d))).alloc (by simp) (.cells #[.string {data:= #[]},.int .i64 0,.int .i64 0,.slice none 0 0,.slice none 0 0] 130)
 have af:Typed ((w.alloc (stO s (.slice Z Y J) (.slice U s.ends.length d))).alloc (.cells #[.string {data:= #[]},.int .i64 0,.int .i64 0,.slice none 0 0,.slice none 0 0] 130)) w.heap.size 130∧Typed ((w.alloc (stO s (.slice Z Y J) (.slice U s.ends.length d))).alloc (.cells #[.string {data:= #[]},.int .i64 0,.int .i64 0,.slice none 0 0,.slice none 0 0] 130)) (w.heap.size+1) 130:=⟨(Typed.new w _ _).later (dx _ _),by have:=Typed.new (w.alloc (stO s (.slice Z Y J) (.slice U s.ends.length d))) #[.string {data:= #[]},.int .i64 0,.int .i64 0,.slice none 0 0,.slice none 0 0] 130;simpa using this⟩
 have hI:WIn ((w.alloc (stO s (.slice Z Y J) (.slice U s.ends.length d))).alloc (.cells #[.string {data:= #[]},.int .i64 0,.int .i64 0,.slice none 0 0,.slice none 0 0] 130)) w.heap.size s (.slice Z Y J) (.slice U s.ends.length d):=by
  refine⟨(StIn.new w s _ _).later (dx _ _),by simp[go_sem],fun j hj=>?_⟩
  have:j=0∨j=1∨j=2∨j=3∨j=4:=by omega
  rcases this with rfl|rfl|rfl|rfl|rfl<;>simp[go_sem]
 have hq:w.heap.size+1<((w.alloc (stO s (.slice Z Y J) (.slice U s.ends.length d))).alloc (.cells #[.string {data:= #[]},.int .i64 0,.int .i64 0,.slice none 0 0,.slice none 0 0] 130)).heap.size:=by simp
 generalize (w.alloc (stO s (.slice Z Y J) (.slice U s.ends.length d))).alloc (.cells #[.string {data:= #[]},.int .i64 0,.int .i64 0,.slice none 0 0,.slice none 0 0] 130)=W at *;have am:=Hq af;clear af;have HB:=Hq ae;have aK:=Hq (HR.out.later ae);have HI:=Hq hI;clear hI ae
 go_loopw [9,10] (fun v i wr=>∃k:Nat,k≤s.ends.length∧i=.int .i64 k∧wr.ownsRow W.heap.size 85 2 v ((s.ends.take k).drop (s.ends.length-5)).length (((s.ends.take k).drop (s.ends.length-5)).flatMap enC)∧Below W.heap.size W wr) (fun _ i _=>s.ends.length-(intOf i).toNat)
 case atStart=>exact⟨0,Nat.zero_le _,rfl,by simpa using World.ownsRow_nil _ _ _ _,Below.refl _ _⟩
 case round=>
  obtain⟨k,hk,rfl,G,Q⟩:=hrel;have ar:=Q.size;have hW:=HI.out.later hq Q;have c4:=hW.st.c4;have aq:((s.ends.take k).drop (s.ends.length-5)).length≤10000:=by simp;omega
  by_cases ao:k<s.ends.length
  ·have b1:(0:Int)≤(k:Int):=by omega
   have b2:(k:Int)<(s.ends.length:Int):=by omega
   have HT:Hid _:=oy s.ends (s.ends.length-5) k ao;clear hW
   by_cases he:s.ends.length-5≤k
   ·have HF:Hid ((s.ends.take (k+1)).drop (s.ends.length-5)=(s.ends.take k).drop (s.ends.length-5)++[s.ends[k]]):=by
     have:=HT.out;rw[if_pos he] at this;exact this
    have q1:(s.ends.length:Int)<(k:Int)+6:=by omega
    obtain⟨b,aZ,ax,hv,_,hc⟩:=(aK.out.later Q).some' (by omega)
    cases hv
    obtain⟨d0,d1⟩:=fW hc k ao;clear hc HT he;generalize s.ends[k]=y at *;generalize (s.ends.take k).drop (s.ends.length-5)=L at *;go_wp2_with (at_builtin;refine wpList_append_lies _ rfl (.tmp 28) (.tmp 34) 38 rfl W.heap.size 85 i0 (.agg #[.int .i64 0,.string ByteArray.empty]) 2 24 Tryz.underlying38 hi ap ak aj rfl (by decide) _ _ _ rfl (G.alloc _) ⟨wr.heap.size,0,none⟩ 1 1 (enC y) rfl rfl (jj _ _ _) (jq y) (by decide) ?c3 ?c4 ?c5 _ rfl ?_)
    case c3=>unfold maxLen;omega
    case c4=>omega
    case c5=>simp;omega
    ·intro g V w1 I O _ au;have B1:Below W.heap.size W w1:=(Q.alloc ar _).grown O (by simp;omega) (fun k' e=>(G.lt k' e).1)
     have ah:w1.ownsRow W.heap.size 85 2 (.slice (some ⟨g,0,none⟩) (L.length+1) V) (L++[y]).length ((L++[y]).flatMap enC):=by simpa using I
     clear I O G Q d0 d1 c4;go_wp2_with fail;go_roundw
     case rel=>exact⟨k+1,by omega,by go_num,by rw[HF.out];exact ah,B1⟩
     case measure=>simp[intOf];omega
   ·have HF:Hid ((s.ends.take (k+1)).drop (s.ends.length-5)=(s.ends.take k).drop (s.ends.length-5)):=by
     have:=HT.out;rw[if_neg he] at this;exact this
    have q1:¬(s.ends.length:Int)<(k:Int)+6:=by omega
    clear HT he;go_wp2_with fail;go_roundw
    case rel=>exact⟨k+1,by omega,by go_num,by rw[HF.out];exact G,Q⟩
    case measure=>simp[intOf];omega
  ·obtain rfl:k=s.ends.length:=by omega
   rw[List.take_length] at G aq;have a3:(s.ends.drop (s.ends.length-5)).length≤10000:=aq;have c0:=hW.st.c0;have c1:=hW.st.c1;have c2:=hW.st.c2;have c3:=hW.st.c3;have HP:Hid (Bx.push s.ends ⟨n,how⟩=s.ends.drop (s.ends.length-5)++[⟨n,how⟩]):=rfl;generalize s.ends.drop (s.ends.length-5)=L at *;go_wp2_with (at_builtin;refine wpList_append_lies _ rfl (.tmp 36) (.tmp 40) 38 rfl W.heap.size 85 i0 (.agg #[.int .i64 0,.string ByteArray.empty]) 2 24 Tryz.underlying38 hi ap ak aj rfl (by decide) _ _ _ rfl (G.alloc _) ⟨wr.heap.size,0,none⟩ 1 1 (enC ⟨n,how⟩) rfl rfl (jj _ _ _) (jq ⟨n,how⟩) (by decide) ?c3 ?c4 ?c5 _ rfl ?_)
   case c3=>unfold maxLen;omega
   case c4=>omega
   case c5=>simp;omega
   ·intro g V w1 I O _ au;have B1:Below W.heap.size W w1:=(Q.alloc ar _).grown O (by simp;omega) (fun k' e=>(G.lt k' e).1)
    have a2:W.heap.size≤g:=by
     rcases I.2 with ⟨h,_⟩|⟨g',ax,cur,h,h3,_⟩
     ·cases h
     ·cases h;exact h3
    have av:Hid (TRow w1 85 (.slice (some ⟨g,0,none⟩) (L.length+1) V) (L.length+1) (L.flatMap enC++enC ⟨n,how⟩)):=TRow.of_own I;have aa:Typed w1 w.heap.size 130∧Typed w1 (w.heap.size+1) 130:=⟨am.out.1.below (by omega) B1,am.out.2.below (by omega) B1⟩
    have aB:=HI.out.later hq B1;have aD:=Hq (HB.out.trans (B1.mono HB.out.size));have aY:w.heap.size+1<w1.heap.size:=by have:=B1.size;omega
    clear I O G Q c0 c1 c2 c3 c4 B1 hW;obtain⟨⟨c0,c1,c2,c3,c4⟩,f4,rs⟩:=aB;obtain⟨⟨u0,r0⟩,g0⟩:=rs 0 (by decide)
    obtain⟨⟨u1,r1⟩,g1⟩:=rs 1 (by decide)
    obtain⟨⟨u2,r2⟩,g2⟩:=rs 2 (by decide)
    obtain⟨⟨u3,r3⟩,g3⟩:=rs 3 (by decide)
    obtain⟨⟨u4,r4⟩,g4⟩:=rs 4 (by decide)
    clear rs;go_wp2_with fail;refine bodyPost_ret (v:=stV s (.slice Z Y J) (.slice (some ⟨g,0,none⟩) (L.length+1) V)) (by simp[results,Tryz.results215,go_sem,r0,r1,r2,r3,r4]) rfl ⟨⟨_,rfl,?_⟩,?_⟩
    ·rw[HP.out];have e1:(L++[(⟨n,how⟩:Bx.En)]).length=L.length+1:=by simp
     have e2:(L++[(⟨n,how⟩:Bx.En)]).flatMap enC=L.flatMap enC++enC ⟨n,how⟩:=by simp
     rw[e1,e2];refine TRow.set ?_ (((((aa.2.setCell _ _ _).setCell _ _ _).setCell _ _ _).setCell _ _ _).setCell _ _ _) (by decide) _ _
     refine TRow.set ?_ ((((aa.2.setCell _ _ _).setCell _ _ _).setCell _ _ _).setCell _ _ _) (by decide) _ _
     refine TRow.set ?_ (((aa.2.setCell _ _ _).setCell _ _ _).setCell _ _ _) (by decide) _ _
     refine TRow.set ?_ ((aa.2.setCell _ _ _).setCell _ _ _) (by decide) _ _
     refine TRow.set ?_ (aa.2.setCell _ _ _) (by decide) _ _
     exact TRow.set av.out aa.1 (by decide) _ _
    ·exact (((((aD.out.setCell (by simp) _).setCell (by simp) _).setCell (by simp) _).setCell (by simp) _).setCell (by simp) _).setCell (by simp) _
theorem jJ (t y m d h i k:Int) (w:World) (t0:0≤t) (t1:t≤4223371679) (H:DtIs t y m d h i k):
 Calls Tryz.prog 223 #[dateV y m d h i k] w fun e w'=>(∃y' Y V Q U Z,e=.returned (dateV y' Y V Q U Z)∧DtIs (t+1) y' Y V Q U Z)∧Below w.heap.size w w':=by
 obtain⟨G,rfl,rfl,rfl⟩:=H t1;have aj:=Cal.dim_lo y m;have a1:=G.y1;have a2:=G.y2;have O:=G.m1;have a4:=G.m2;have J:=G.d1;have a6:=G.d2;have a7:=G.num
 by_cases hc:t % 60<59
 ·refine (rR _ _ _ _ _ _ w (by omega) hc).mono ?_
  rintro e w1 ⟨rfl,hb⟩;refine⟨⟨_,_,_,_,_,_,rfl,fun _=>⟨?_,by omega,by omega,by omega⟩⟩,hb⟩
  have I:(t+1) / 1440=t / 1440:=by omega
  rw[I];exact G
 by_cases hd:t % 1440 / 60<23
 ·refine (rz _ _ _ _ _ _ w (by omega) hd (by omega)).mono ?_
  rintro e w1 ⟨rfl,hb⟩;refine⟨⟨_,_,_,_,_,_,rfl,fun _=>⟨?_,by omega,by omega,by omega⟩⟩,hb⟩
  have I:(t+1) / 1440=t / 1440:=by omega
  rw[I];exact G
 have I:(t+1) / 1440=t / 1440+1:=by omega
 by_cases he:d<Cal.dim y m
 ·refine (si _ _ _ _ _ _ w (by omega) (by omega) J (by omega) (by omega) (by omega) (by omega) he (by omega)).mono ?_
  rintro e w1 ⟨rfl,hb⟩;refine⟨⟨_,_,_,_,_,_,rfl,fun _=>⟨?_,by omega,by omega,by omega⟩⟩,hb⟩
  rw[I];exact⟨a1,a2,O,a4,by omega,by omega,by omega⟩
 by_cases hf:m<12
 ·refine (rZ _ _ _ _ _ _ w (by omega) (by omega) J (by omega) (by omega) (by omega) (by omega) (by omega) O hf (by omega)).mono ?_
  rintro e w1 ⟨rfl,hb⟩;refine⟨⟨_,_,_,_,_,_,rfl,fun _=>⟨?_,by omega,by omega,by omega⟩⟩,hb⟩
  have:=Cal.cum_succ y m O (by omega)
  have:=Cal.dim_lo y (m+1);rw[I];exact⟨a1,a2,by omega,by omega,by omega,by omega,by omega⟩
 ·refine (rj _ _ _ _ _ _ w (by omega) (by omega) J (by omega) (by omega) (by omega) (by omega) (by omega) (by omega) (by omega) (by omega)).mono ?_
  rintro e w1 ⟨rfl,hb⟩;refine⟨⟨_,_,_,_,_,_,rfl,fun h=>⟨?_,by omega,by omega,by omega⟩⟩,hb⟩
  obtain rfl:m=12:=by omega
  have q1:Cal.cum y 13=Cal.cum y 12+Cal.dim y 12:=Cal.cum_succ y 12 (by omega) (by omega)
  have q2:=Cal.cum_13 y;have q3:=Cal.dby_succ y;have q4:=Cal.cum_1 (y+1);have q5:=Cal.dim_lo (y+1) 1;have q6:=Cal.dby_10000
  have:y+1≤9999:=by
   rcases Int.lt_or_le (y+1) 10000 with c|c
   ·omega
   ·obtain rfl:y=9999:=by omega
    have:Cal.dby (9999+1)=2932897:=q6;omega
  rw[I];exact⟨by omega,this,by omega,by omega,by omega,by omega,by omega⟩
theorem sf:(Tryz.prog.info? 3).map (fun i=>(i.zero,i.size,i.bytes))=some (some (.int .i64 0),1,8):=by kernel_rfl
structure DtIn (W:World) (q:Nat) (y m d h i k:Int):Prop where
 D:DateAt W q y m d h i k
 f:∀j:Nat,j<6→W.frozen? ⟨q,j,none⟩=false
theorem DtIn.later {W W':World}{q:Nat}{y m d h i k:Int} (a:DtIn W q y m d h i k) (w:q<W.heap.size) (hb:Below W.heap.size W W'):DtIn W' q y m d h i k:=
 ⟨a.D.later hb,fun j e=>(hb.frozen (p:=⟨q,j,none⟩) w).trans (a.f j e)⟩
theorem DtIn.below {W W':World}{q n:Nat}{y m d h i k:Int} (a:DtIn W q y m d h i k) (e:q<n) (hb:Below n W W'):DtIn W' q y m d h i k:=by
 obtain⟨⟨c0,c1,c2,c3,c4,c5⟩,f⟩:=a;refine⟨⟨?_,?_,?_,?_,?_,?_⟩,fun j w=>(hb.frozen (p:=⟨q,j,none⟩) e).trans (f j w)⟩
 ·exact (hb.cell (p:=⟨q,0,none⟩) e).trans c0
 ·exact (hb.cell (p:=⟨q,1,none⟩) e).trans c1
 ·exact (hb.cell (p:=⟨q,2,none⟩) e).trans c2
 ·exact (hb.cell (p:=⟨q,3,none⟩) e).trans c3
 ·exact (hb.cell (p:=⟨q,4,none⟩) e).trans c4
 ·exact (hb.cell (p:=⟨q,5,none⟩) e).trans c5
theorem DtIn.new (w:World) (y m d h i k:Int) (t:TypeId):DtIn (w.alloc (.cells #[.int .i64 y,.int .i64 m,.int .i64 d,.int .i64 h,.int .i64 i,.int .i64 k] t)) w.heap.size y m d h i k:=
 ⟨DateAt.new w y m d h i k t,fun j _=>by simp[go_sem]⟩
theorem DtIn.store {W:World}{q:Nat}{y m d h i k:Int} (a:DtIn W q y m d h i k) (G O w I J e:Int):
 DtIn ((((((W.setCell ⟨q,0,none⟩ (.int .i64 G)).setCell ⟨q,1,none⟩ (.int .i64 O)).setCell ⟨q,2,none⟩ (.int .i64 w)).setCell ⟨q,3,none⟩ (.int .i64 I)).setCell ⟨q,4,none⟩ (.int .i64 J)).setCell ⟨q,5,none⟩ (.int .i64 e)) q G O w I J e:=by
 obtain⟨⟨c0,c1,c2,c3,c4,c5⟩,f⟩:=a;have f0:=f 0 (by decide);have f1:=f 1 (by decide);have f2:=f 2 (by decide);have Q:=f 3 (by decide);have f4:=f 4 (by decide);have U:=f 5 (by decide)
 refine⟨⟨?_,?_,?_,?_,?_,?_⟩,fun j V=>?_⟩
 case refine_7=>
  have:j=0∨j=1∨j=2∨j=3∨j=4∨j=5:=by omega
  rcases this with rfl|rfl|rfl|rfl|rfl|rfl<;>simp[go_sem,f0,f1,f2,Q,f4,U]
 all_goals simp[go_sem,c0,c1,c2,c3,c4,c5]
structure DuesAt (s:ByteArray) (a:Int) (w wr:World) (q k:Nat) (v:Value):Prop where
 own:wr.ownsRow (q+1) 3 1 v (Bx.dl (dueT s) a k).length ((Bx.dl (dueT s) a k).map (Value.int .i64))
 bel:Below w.heap.size w wr
 lt:q<wr.heap.size
 dt:∃y m d h i k',DtIn wr q y m d h i k'∧DtIs (a+k) y m d h i k'
set_option maxHeartbeats 0 in
theorem qs (s:ByteArray) (a b:Int) (w:World) (hs:s.size≤300) (hP:LineP s) (a0:0≤a) (bm:a≤b) (b1:b≤4223371679) (hj:b-a≤1600):
 Calls Tryz.prog 203 #[.string s,.int .i64 a,.int .i64 b] w fun e w'=>(∃v,e=.returned v∧w'.ownsRow w.heap.size 3 1 v (Bx.dl (dueT s) a (b+1-a).toNat).length ((Bx.dl (dueT s) a (b+1-a).toNat).map (Value.int .i64)))∧Below w.heap.size w w':=by
 obtain⟨i0,hi,a7,aV,aT⟩:=info_parts sf;have HP:=Hq hP;clear hP;obtain⟨n,hn⟩:∃n:Nat,n=(b+1-a).toNat:=⟨_,rfl⟩;rw[←hn];have aU:(n:Int)=b+1-a:=by omega
 clear hn
 go_enter Tryz.func203,Tryz.ntmps203
 go_wp2_with fail;refine (nz a _ a0 (by omega)).mono ?_
 rintro e w1 ⟨⟨y,m,d,HD,rfl⟩,av⟩;have aO:=av.size
 have aG:Hid (DtIs (a+(0:Nat)) y m d (a % 1440 / 60) (a % 60) ((a / 1440+4) % 7)):=by
  intro _;rw[show a+((0:Nat):Int)=a by simp];exact⟨HD,rfl,rfl,rfl⟩
 clear HD;generalize a % 1440 / 60=h at *;generalize a % 60=i at *;generalize (a / 1440+4) % 7=k0 at *;go_wp2_with fail;have hI:=DtIn.new w1 y m d h i k0 194;have aH:Below w.heap.size w (w1.alloc (.cells #[.int .i64 y,.int .i64 m,.int .i64 d,.int .i64 h,.int .i64 i,.int .i64 k0] 194)):=av.alloc aO _;have hq:w1.heap.size<(w1.alloc (.cells #[.int .i64 y,.int .i64 m,.int .i64 d,.int .i64 h,.int .i64 i,.int .i64 k0] 194)).heap.size:=by simp
 generalize w1.alloc (.cells #[.int .i64 y,.int .i64 m,.int .i64 d,.int .i64 h,.int .i64 i,.int .i64 k0] 194)=W at *;have HS:Hid (DuesAt s a w W w1.heap.size 0 (.slice none 0 0)):=⟨World.ownsRow_nil _ _ _ _,aH,hq,y,m,d,h,i,k0,hI,aG.out⟩;clear hI aH hq av aG;generalize w1.heap.size=q at *
 go_loopw [7,10] (fun v t wr=>∃k:Nat,k≤n∧t=.int .i64 (a+k)∧DuesAt s a w wr q k v) (fun _ t _=>n-(intOf t-a).toNat)
 case atStart=>exact⟨0,Nat.zero_le _,by simp,HS.out⟩
 case round=>
  obtain⟨k,hk,rfl,⟨am,aj,aI,y,m,d,h,i,k',aK,aL⟩⟩:=hrel;have au:=Hq aK;have al:=Hq aL;obtain⟨⟨V,p1,Y,p3,Z,U⟩,_⟩:=aK;clear aL
  by_cases a3:k<n
  ·have t0:0≤a+(k:Int):=by omega
   have t1:a+(k:Int)≤4223371679:=by omega
   have t2:a+(k:Int)≤b:=by omega
   obtain⟨m1,m2,d1,d2,h1,h2,i1,i2,k1,k2⟩:=al.out.bd t0 t1;have HE:Hid (dueB s m d h i k'=dueT s (a+k)):=rU t1 al.out;go_wp2_with fail;refine (oa s y m d h i k' _ hs HP.out m1 m2 d1 d2 h1 h2 i1 i2 k1 k2).mono ?_;rintro e w2 ⟨rfl,ak⟩;rw[HE.out];clear V p1 Y p3 Z U;have O:Hid (DtIn w2 q y m d h i k'):=au.out.later aI ak;have J:=dV am ak;have ae:Below w.heap.size w w2:=aj.trans (ak.mono aj.size);have ar:q<w2.heap.size:=Nat.lt_of_lt_of_le aI ak.size;have bo:=Bx.dl_len (dueT s) a k;clear au am aj ak HE m1 m2 d1 d2 h1 h2 i1 i2 k1 k2
   cases aJ:dueT s (a+k)
   ·have HF:Hid (Bx.dl (dueT s) a (k+1)=Bx.dl (dueT s) a k):=tI aJ;obtain⟨⟨V,p1,Y,p3,Z,U⟩,f⟩:=O.out;have f0:=f 0 (by decide);have f1:=f 1 (by decide);have f2:=f 2 (by decide);have f3:=f 3 (by decide);have f4:=f 4 (by decide);have f5:=f 5 (by decide)
    clear f;go_wp2_with fail;refine (jJ (a+k) y m d h i k' _ t0 t1 al.out).mono ?_;rintro e w3 ⟨⟨y',m',d',h',i',I,rfl,HN⟩,G⟩;clear V p1 Y p3 Z U f0 f1 f2 f3 f4 f5;have Q:=O.out.later ar G
    have aA:Hid (DtIs (a+((k+1:Nat):Int)) y' m' d' h' i' I):=by
     unfold Hid;rw[show a+((k+1:Nat):Int)=a+k+1 by push_cast;omega];exact HN
    have aw:Hid (DtIn _ q y' m' d' h' i' I):=Q.store y' m' d' h' i' I;obtain⟨⟨V,p1,Y,p3,Z,U⟩,f⟩:=Q;have f0:=f 0 (by decide);have f1:=f 1 (by decide);have f2:=f 2 (by decide);have f3:=f 3 (by decide);have f4:=f 4 (by decide);have f5:=f 5 (by decide)
    clear f HN;go_wp2_with fail;go_roundw
    case rel=>
     refine⟨k+1,by omega,by go_num,⟨?_,?_,?_,y',m',d',h',i',I,aw.out,aA.out⟩⟩
     ·rw[HF.out];have:=dV J G
      repeat (refine ownsRow_setCell_below ?_ (by simp) _)
      exact this
     ·repeat (refine Below.setCell ?_ (by simp;omega) _)
      exact ae.trans (G.mono ae.size)
     ·have:=G.size;simp;omega
    case measure=>simp[intOf];omega
   ·have HF:Hid (Bx.dl (dueT s) a (k+1)=Bx.dl (dueT s) a k++[a+(k:Int)]):=sJ aJ;obtain⟨⟨V,p1,Y,p3,Z,U⟩,f⟩:=O.out;generalize Bx.dl (dueT s) a k=L at *;clear f V p1 Y p3 Z U;go_wp2_with (at_builtin;refine wpList_append_lies _ rfl (.tmp 27) (.tmp 29) 58 rfl (q+1) 3 i0 (.int .i64 0) 1 8 Tryz.underlying58 hi a7 aV aT rfl (by decide) _ _ _ rfl (J.alloc _) ⟨w2.heap.size,0,none⟩ 1 1 [.int .i64 (a+k)] rfl rfl ?c1 ?c2 (by decide) ?c3 ?c4 ?c5 _ rfl ?_)
    case c1=>exact cell_one_new _ _ _
    case c2=>intro u hu;simp at hu;subst hu;rfl
    case c3=>unfold maxLen;omega
    case c4=>omega
    case c5=>simp;omega
    ·intro g aN w4 ao ap _ bb;have B1:Below (q+1) w2 w4:=((Below.refl (q+1) w2).alloc (by omega) _).grown ap (by simp;omega) (fun k' e=>(J.lt k' e).1)
     have B2:Hid (Below w.heap.size w w4):=ae.trans (B1.mono (by omega))
     have aE:Hid (w4.ownsRow (q+1) 3 1 (.slice (some ⟨g,0,none⟩) (L.length+1) aN) (L++[a+(k:Int)]).length ((L++[a+(k:Int)]).map (Value.int .i64))):=by unfold Hid;simpa using ao
     have aM:q<w4.heap.size:=Nat.lt_of_lt_of_le ar B1.size;have aC:Hid (DtIn w4 q y m d h i k'):=O.out.below (by omega) B1
     clear ao ap J ae O;obtain⟨⟨V,p1,Y,p3,Z,U⟩,f⟩:=aC.out;have f0:=f 0 (by decide);have f1:=f 1 (by decide);have f2:=f 2 (by decide);have f3:=f 3 (by decide);have f4:=f 4 (by decide);have f5:=f 5 (by decide)
     clear f;go_wp2_with fail;refine (jJ (a+k) y m d h i k' _ t0 t1 al.out).mono ?_;rintro e w3 ⟨⟨y',m',d',h',i',I,rfl,HN⟩,G⟩;clear V p1 Y p3 Z U f0 f1 f2 f3 f4 f5;have Q:=aC.out.later aM G
     have aA:Hid (DtIs (a+((k+1:Nat):Int)) y' m' d' h' i' I):=by
      unfold Hid;rw[show a+((k+1:Nat):Int)=a+k+1 by push_cast;omega];exact HN
     have aw:Hid (DtIn _ q y' m' d' h' i' I):=Q.store y' m' d' h' i' I;obtain⟨⟨V,p1,Y,p3,Z,U⟩,f⟩:=Q;have f0:=f 0 (by decide);have f1:=f 1 (by decide);have f2:=f 2 (by decide);have f3:=f 3 (by decide);have f4:=f 4 (by decide);have f5:=f 5 (by decide)
     clear f HN;go_wp2_with fail;go_roundw
     case rel=>
      refine⟨k+1,by omega,by go_num,⟨?_,?_,?_,y',m',d',h',i',I,aw.out,aA.out⟩⟩
      ·rw[HF.out];have:=dV aE.out G
       repeat (refine ownsRow_setCell_below ?_ (by simp) _)
       exact this
      ·repeat (refine Below.setCell ?_ (by simp;omega) _)
       exact B2.out.trans (G.mono B2.out.size)
      ·have:=G.size;simp;omega
     case measure=>simp[intOf];omega
  ·obtain rfl:k=n:=by omega
   have t2:¬a+(k:Int)≤b:=by omega
   have bn:=aj.size;clear aU au al V p1 Y p3 Z U a3 hk;go_wp2_with fail;go_ret;exact⟨⟨_,rfl,fM am (by omega)⟩,aj⟩
def LinesAt (w:World) (b:Nat) (tab:ByteArray):Prop:=∀i,i<tn tab→w.cell? ⟨b,i,none⟩=some (.string (tl tab i))
theorem LinesAt.later {w d:World}{b:Nat}{tab:ByteArray} (h:LinesAt w b tab) (hb:Below w.heap.size w d):LinesAt d b tab:=fun i hi=>cell_later hb (h i hi)
set_option maxHeartbeats 0 in
theorem eU (s:Bx.St) (sl en:Value) (w:World) (J:ChkR s.tab 0 0) (hS:StAt w s sl en):
 Calls Tryz.prog 179 #[stV s sl en] w fun e Q=>(∃b d,e=.returned (.slice (some ⟨b,0,none⟩) (tn s.tab) d)∧LinesAt Q b s.tab)∧Below w.heap.size w Q:=by
 obtain⟨ad,d,rfl,Z⟩:=hS.sl.form;obtain⟨ac,Y,rfl,U⟩:=hS.en.form;clear hS;obtain⟨I,O,hl⟩:=J.lines;have HM:Hid (tm s.tab=tn s.tab):=by unfold Hid tm;rw[if_pos O];rfl
 clear hl O J
 go_enter Tryz.func179,Tryz.ntmps179
 go_wp2_with fail;refine (jA _ _ I).mono ?_;rintro e w1 ⟨⟨b,G,rfl,hS⟩,hb⟩;rw[HM.out];have V:=Hq hS;clear hS;go_wp2_with fail;go_ret;refine⟨⟨b,G,rfl,fun i hi=>?_⟩,(dx _ _).trans (hb.mono (by simp))⟩
 have:=eQ s.tab;rw[←gb (by omega)];exact V.out i (by omega)
theorem RowAt.last {w:World}{g d:Nat}{L:List Int} (e:∀j (h:j<(L.map (Value.int .i64)).length),w.cell? ⟨g,0+j,none⟩=some (L.map (Value.int .i64))[j]) (J:0<L.length) (G:L.length≤d):
 RowAt w (.slice (some ⟨g,L.length-1,none⟩) (L.length-(L.length-1)) (d-(L.length-1))) (L.drop (L.length-1)).length ((L.drop (L.length-1)).map (Value.int .i64)):=by
 refine Or.inr ⟨g,L.length-1,d-(L.length-1),?_,?_,fun j I=>?_⟩
 ·rw[List.length_drop]
 ·rw[List.length_drop];omega
 ·simp at I
  have h2:L.length-1+j<(L.map (Value.int .i64)).length:=by simp;omega
  have:=e (L.length-1+j) h2;rw[Nat.zero_add] at this;rw[this];simp
set_option maxHeartbeats 0 in
theorem mn (s:Bx.St) (sl en:Value) (l:ByteArray) (m:Int) (w:World) (hl:l.size≤300) (hP:LineP l) (h0:0≤Bx.newA s m) (h1:Bx.newA s m≤m) (h2:m≤4223371679) (h3:m-Bx.newA s m≤1600) (c1: -1≤s.clock) (c2:s.clock≤4223371679) (hS:StAt w s sl en):
 Calls Tryz.prog 180 #[stV s sl en,.string l,.int .i64 m] w fun e w'=>(∃v,e=.returned v∧TRow w' 3 v (Bx.cntL (lnOf l) (Bx.newA s m) m).length ((Bx.cntL (lnOf l) (Bx.newA s m) m).map (Value.int .i64)))∧Below w.heap.size w w':=by
 obtain⟨ad,av,rfl,aQ⟩:=hS.sl.form;obtain⟨ay,al,rfl,aO⟩:=hS.en.form;clear hS;have HP:=Hq hP;clear hP;obtain⟨a,ha⟩:∃a:Int,a=Bx.newA s m:=⟨_,rfl⟩;rw[←ha] at h0 h1 h3 ⊢;obtain⟨f,hf⟩:∃f:Int,f=Bx.frm (lnOf l) a m:=⟨_,rfl⟩;have ai:f=(if ob l 1=110 then m else a):=hf
 obtain⟨D,hD⟩:∃D:List Int,D=Bx.dl (dueT l) f (m+1-f).toNat:=⟨_,rfl⟩
 have O:Hid (Bx.cntL (lnOf l) a m=if ob l 1=108∧1<D.length then D.drop (D.length-1) else D):=by
  rw[hD,hf];rfl
 have aK:a≤f∧f≤m:=by rw[ai];split<;>omega
 have aR:D.length≤1700:=by rw[hD];have:=Bx.dl_len (dueT l) f (m+1-f).toNat;omega
 have HD:Hid (∀W:World,Calls Tryz.prog 203 #[.string l,.int .i64 f,.int .i64 m] W fun e w'=>(∃v,e=.returned v∧w'.ownsRow W.heap.size 3 1 v D.length (D.map (Value.int .i64)))∧Below W.heap.size W w'):=by
  intro W;rw[hD];exact qs l f m W hl HP.out (by omega) aK.2 h2 (by omega)
 clear hD hf;have hI:=StIn.new w s (.slice ad s.slots.length av) (.slice ay s.ends.length al);have ae:=dx w (stO s (.slice ad s.slots.length av) (.slice ay s.ends.length al));have hq:w.heap.size≤(w.alloc (stO s (.slice ad s.slots.length av) (.slice ay s.ends.length al))).heap.size:=by simp
 go_enter Tryz.func180,Tryz.ntmps180
 have q0:IntKind.i64.wrap (s.clock+1)=s.clock+1:=by rw[IntKind.wrap_i64];omega
 have hA:a=(if s.clock= -1 then m else s.clock+1):=ha
 clear ha
 cases e1:(s.clock== -1)
 ·have n1:¬s.clock= -1:=by simpa using e1
  rw[if_neg n1] at hA
  cases e2:(ob l 1==110)
  ·have n2:¬ob l 1=110:=by simpa using e2
   rw[if_neg n2,hA] at ai;subst ai;clear n1 n2 hA;go_wp2_with fail;refine (ew l _ hl HP.out).mono ?_;rintro e w1 ⟨rfl,Q⟩;go_wp2_with fail;refine (HD.out _).mono ?_;rintro e V ⟨⟨v,rfl,d⟩,aa⟩;have HB:Hid (Below w.heap.size w V):=(ae.trans (Q.mono hq)).trans (aa.mono (Nat.le_trans hq Q.size));obtain⟨Z,I,rfl,au⟩:=(RowAt.of_own d).form;clear ae Q aa hI HD
   cases e3:(ob l 1==108)
   ·have J:¬ob l 1=108:=by simpa using e3
    rw[if_neg (fun h=>J h.1)] at O
    have U:Hid (TRow V 3 (.slice Z D.length I) D.length (D.map (Value.int .i64))):=TRow.of_own d;clear J d;go_wp2_with fail;go_ret;rw[O.out];exact⟨⟨_,rfl,U.out⟩,HB.out⟩
   ·have J:ob l 1=108:=by simpa using e3
    by_cases h4:1<D.length
    ·rw[if_pos ⟨J,h4⟩] at O;obtain⟨g,ax,am,hv,Y,G⟩:=(RowAt.of_own d).some' (by omega)
     cases hv
     obtain⟨g',ap,af,_⟩:=d.form (by omega)
     cases af
     have U:Hid (TRow V 3 (.slice (some ⟨g,D.length-1,none⟩) (D.length-(D.length-1)) (I-(D.length-1))) (D.drop (D.length-1)).length ((D.drop (D.length-1)).map (Value.int .i64))):=⟨RowAt.last G (by omega) Y,fun b' o' n' c' hv=>by cases hv;exact (TRow.of_own d).2 _ _ _ _ rfl⟩
     have q4:(1:Int)<(D.length:Int):=by omega
     have q5:IntKind.i64.wrap ((D.length:Int)-1)=((D.length-1:Nat):Int):=by rw[IntKind.wrap_i64];omega
     clear J d G;go_wp2_with fail;go_ret;rw[O.out];exact⟨⟨_,rfl,U.out⟩,HB.out⟩
    ·rw[if_neg (fun h=>h4 h.2)] at O
     have U:Hid (TRow V 3 (.slice Z D.length I) D.length (D.map (Value.int .i64))):=TRow.of_own d;have q4:¬(1:Int)<(D.length:Int):=by omega
     clear J d;go_wp2_with fail;go_ret;rw[O.out];exact⟨⟨_,rfl,U.out⟩,HB.out⟩
  ·have n2:ob l 1=110:=by simpa using e2
   rw[if_pos n2] at ai;subst ai;clear n1 n2 hA;go_wp2_with fail;refine (ew l _ hl HP.out).mono ?_;rintro e w1 ⟨rfl,Q⟩;go_wp2_with fail;refine (HD.out _).mono ?_;rintro e V ⟨⟨v,rfl,d⟩,aa⟩;have HB:Hid (Below w.heap.size w V):=(ae.trans (Q.mono hq)).trans (aa.mono (Nat.le_trans hq Q.size));obtain⟨Z,I,rfl,au⟩:=(RowAt.of_own d).form;clear ae Q aa hI HD
   cases e3:(ob l 1==108)
   ·have J:¬ob l 1=108:=by simpa using e3
    rw[if_neg (fun h=>J h.1)] at O
    have U:Hid (TRow V 3 (.slice Z D.length I) D.length (D.map (Value.int .i64))):=TRow.of_own d;clear J d;go_wp2_with fail;go_ret;rw[O.out];exact⟨⟨_,rfl,U.out⟩,HB.out⟩
   ·have J:ob l 1=108:=by simpa using e3
    by_cases h4:1<D.length
    ·rw[if_pos ⟨J,h4⟩] at O;obtain⟨g,ax,am,hv,Y,G⟩:=(RowAt.of_own d).some' (by omega)
     cases hv
     obtain⟨g',ap,af,_⟩:=d.form (by omega)
     cases af
     have U:Hid (TRow V 3 (.slice (some ⟨g,D.length-1,none⟩) (D.length-(D.length-1)) (I-(D.length-1))) (D.drop (D.length-1)).length ((D.drop (D.length-1)).map (Value.int .i64))):=⟨RowAt.last G (by omega) Y,fun b' o' n' c' hv=>by cases hv;exact (TRow.of_own d).2 _ _ _ _ rfl⟩
     have q4:(1:Int)<(D.length:Int):=by omega
     have q5:IntKind.i64.wrap ((D.length:Int)-1)=((D.length-1:Nat):Int):=by rw[IntKind.wrap_i64];omega
     clear J d G;go_wp2_with fail;go_ret;rw[O.out];exact⟨⟨_,rfl,U.out⟩,HB.out⟩
    ·rw[if_neg (fun h=>h4 h.2)] at O
     have U:Hid (TRow V 3 (.slice Z D.length I) D.length (D.map (Value.int .i64))):=TRow.of_own d;have q4:¬(1:Int)<(D.length:Int):=by omega
     clear J d;go_wp2_with fail;go_ret;rw[O.out];exact⟨⟨_,rfl,U.out⟩,HB.out⟩
 ·have n1:s.clock= -1:=by simpa using e1
  rw[if_pos n1] at hA;have aM:f=m:=by rw[ai];split<;>omega
  subst aM;clear n1 hA ai
  cases e2:(ob l 1==110)
  ·skip
   go_wp2_with fail;refine (ew l _ hl HP.out).mono ?_;rintro e w1 ⟨rfl,Q⟩;go_wp2_with fail;refine (HD.out _).mono ?_;rintro e V ⟨⟨v,rfl,d⟩,aa⟩;have HB:Hid (Below w.heap.size w V):=(ae.trans (Q.mono hq)).trans (aa.mono (Nat.le_trans hq Q.size));obtain⟨Z,I,rfl,au⟩:=(RowAt.of_own d).form;clear ae Q aa hI HD
   cases e3:(ob l 1==108)
   ·have J:¬ob l 1=108:=by simpa using e3
    rw[if_neg (fun h=>J h.1)] at O
    have U:Hid (TRow V 3 (.slice Z D.length I) D.length (D.map (Value.int .i64))):=TRow.of_own d;clear J d;go_wp2_with fail;go_ret;rw[O.out];exact⟨⟨_,rfl,U.out⟩,HB.out⟩
   ·have J:ob l 1=108:=by simpa using e3
    by_cases h4:1<D.length
    ·rw[if_pos ⟨J,h4⟩] at O;obtain⟨g,ax,am,hv,Y,G⟩:=(RowAt.of_own d).some' (by omega)
     cases hv
     obtain⟨g',ap,af,_⟩:=d.form (by omega)
     cases af
     have U:Hid (TRow V 3 (.slice (some ⟨g,D.length-1,none⟩) (D.length-(D.length-1)) (I-(D.length-1))) (D.drop (D.length-1)).length ((D.drop (D.length-1)).map (Value.int .i64))):=⟨RowAt.last G (by omega) Y,fun b' o' n' c' hv=>by cases hv;exact (TRow.of_own d).2 _ _ _ _ rfl⟩
     have q4:(1:Int)<(D.length:Int):=by omega
     have q5:IntKind.i64.wrap ((D.length:Int)-1)=((D.length-1:Nat):Int):=by rw[IntKind.wrap_i64];omega
     clear J d G;go_wp2_with fail;go_ret;rw[O.out];exact⟨⟨_,rfl,U.out⟩,HB.out⟩
    ·rw[if_neg (fun h=>h4 h.2)] at O
     have U:Hid (TRow V 3 (.slice Z D.length I) D.length (D.map (Value.int .i64))):=TRow.of_own d;have q4:¬(1:Int)<(D.length:Int):=by omega
     clear J d;go_wp2_with fail;go_ret;rw[O.out];exact⟨⟨_,rfl,U.out⟩,HB.out⟩
  ·skip
   go_wp2_with fail;refine (ew l _ hl HP.out).mono ?_;rintro e w1 ⟨rfl,Q⟩;go_wp2_with fail;refine (HD.out _).mono ?_;rintro e V ⟨⟨v,rfl,d⟩,aa⟩;have HB:Hid (Below w.heap.size w V):=(ae.trans (Q.mono hq)).trans (aa.mono (Nat.le_trans hq Q.size));obtain⟨Z,I,rfl,au⟩:=(RowAt.of_own d).form;clear ae Q aa hI HD
   cases e3:(ob l 1==108)
   ·have J:¬ob l 1=108:=by simpa using e3
    rw[if_neg (fun h=>J h.1)] at O
    have U:Hid (TRow V 3 (.slice Z D.length I) D.length (D.map (Value.int .i64))):=TRow.of_own d;clear J d;go_wp2_with fail;go_ret;rw[O.out];exact⟨⟨_,rfl,U.out⟩,HB.out⟩
   ·have J:ob l 1=108:=by simpa using e3
    by_cases h4:1<D.length
    ·rw[if_pos ⟨J,h4⟩] at O;obtain⟨g,ax,am,hv,Y,G⟩:=(RowAt.of_own d).some' (by omega)
     cases hv
     obtain⟨g',ap,af,_⟩:=d.form (by omega)
     cases af
     have U:Hid (TRow V 3 (.slice (some ⟨g,D.length-1,none⟩) (D.length-(D.length-1)) (I-(D.length-1))) (D.drop (D.length-1)).length ((D.drop (D.length-1)).map (Value.int .i64))):=⟨RowAt.last G (by omega) Y,fun b' o' n' c' hv=>by cases hv;exact (TRow.of_own d).2 _ _ _ _ rfl⟩
     have q4:(1:Int)<(D.length:Int):=by omega
     have q5:IntKind.i64.wrap ((D.length:Int)-1)=((D.length-1:Nat):Int):=by rw[IntKind.wrap_i64];omega
     clear J d G;go_wp2_with fail;go_ret;rw[O.out];exact⟨⟨_,rfl,U.out⟩,HB.out⟩
    ·rw[if_neg (fun h=>h4 h.2)] at O
     have U:Hid (TRow V 3 (.slice Z D.length I) D.length (D.map (Value.int .i64))):=TRow.of_own d;have q4:¬(1:Int)<(D.length:Int):=by omega
     clear J d;go_wp2_with fail;go_ret;rw[O.out];exact⟨⟨_,rfl,U.out⟩,HB.out⟩
end Go.Proofs.YtdajolpoiffimabGreatDoor
