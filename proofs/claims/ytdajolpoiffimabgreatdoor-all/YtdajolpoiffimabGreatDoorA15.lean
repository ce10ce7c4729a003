import Derived.Deep.RegionHeld3
import Derived.Deep.CutRange
import Derived.Test.YtdajolpoiffimabGreatDoorA9
import Derived.Test.YtdajolpoiffimabGreatDoorA14

namespace Go.Proofs.YtdajolpoiffimabGreatDoor
open Go.RowKit
def ChgP (b:ByteArray) (w w':World) (e:Ending):Prop:=∃c ok,e=.returned (.tuple #[chV c,.bool ok])∧(ok=true→Bx.IsCh b c)∧(ok=false→¬∃c,Bx.IsCh b c)∧c.tab.size≤b.size∧Below w.heap.size w w'
theorem gj {b:ByteArray} (h:0<b.size):b=Bx.b1 (b[0].toNat:Int)++b.extract 1 b.size:=by
 have e:=Bx.ext_split b 1
 have h1:b.extract 0 1=Bx.b1 (b[0].toNat:Int):=by
  refine Bx.ba_ext ?_;rw[ei];have d:b.data.toList.length=b.size:=by simp
  have h0:=jw h
  cases hb:b.data.toList with
  | nil=>rw[hb] at d;simp at d;omega
  | cons a r=>
    rw[hb] at h0;have w:a=b[0]:=by simpa using h0
    have G:=b[0].toNat_lt;have hm:((b[0].toNat:Int) % 256).toNat=b[0].toNat:=by omega
    simp only [Bx.b1,w,hm,UInt8.ofNat_toNat]
    rfl
 rw[h1] at e;exact e.symm
theorem tB {b:ByteArray} (h:0<b.size) (d:(b[0].toNat:Int)=84):Bx.IsCh b ⟨84,b.extract 1 b.size,0⟩:=by
 refine⟨Or.inl ⟨rfl,rfl⟩,?_⟩;have e:=gj h;rw[d] at e;unfold Bx.body;rw[if_pos rfl];exact e.symm
theorem tH {b:ByteArray} (h:0<b.size) (G:(b[0].toNat:Int)=67) (I:b.size=6):Bx.IsCh b ⟨67,{data:= #[]},numW (b.extract 1 b.size).data.toList⟩:=by
 have d:(b.extract 1 b.size).size=5:=by rw[ByteArray.size_extract];omega
 obtain⟨k1,k2,w⟩:=ii d (by decide)
 refine⟨Or.inr (Or.inl ⟨rfl,rfl,k2,by simpa using w⟩),?_⟩
 have e:=gj h;rw[G] at e;unfold Bx.body;rw[if_neg (by show ¬(67:Int)=84;decide),if_pos rfl,k1]
 exact e.symm
theorem jW {b:ByteArray}{k:Int} (h:0<b.size) (J:(b[0].toNat:Int)=k) (d:k=83∨k=68∨k=70∨k=75) (O:b.size=3):Bx.IsCh b ⟨k,{data:= #[]},numW (b.extract 1 b.size).data.toList⟩:=by
 have G:(b.extract 1 b.size).size=2:=by rw[ByteArray.size_extract];omega
 obtain⟨k1,w,I⟩:=ii G (by decide)
 refine⟨Or.inr (Or.inr ⟨d,rfl,w,by simpa using I⟩),?_⟩
 have e:=gj h;rw[J] at e;unfold Bx.body;rw[if_neg (by simp;omega),if_neg (by simp;omega),k1]
 exact e.symm
theorem fT {b:ByteArray}{k:Int} (h:0<b.size) (J:(b[0].toNat:Int)=k) (hb:0≤k∧k<256) {c:Bx.Ch} (w:Bx.IsCh b c):c.kind=k∧(k=67→b.size=6)∧(k=83∨k=68∨k=70∨k=75→b.size=3):=by
 have e:=gj h;rw[J] at e;rw[e] at w;obtain⟨I,d⟩:=Bx.isCh_split w hb;have G:(b.extract 1 b.size).size=b.size-1:=by rw[ByteArray.size_extract];omega
 refine⟨I,fun q=>?_,fun q=>?_⟩
 ·rw[if_neg (by omega),if_pos (by omega)] at d
  rw[d,Bx.be_size] at G;omega
 ·rw[if_neg (by omega),if_neg (by omega)] at d
  rw[d,Bx.be_size] at G;omega
theorem pJ {b:ByteArray}{k:Int} (h:0<b.size) (w:(b[0].toNat:Int)=k) (hb:0≤k∧k<256) (d:¬k=84∧¬k=67∧¬k=83∧¬k=68∧¬k=70∧¬k=75):¬∃c,Bx.IsCh b c:=by
 have e:=gj h;rw[w] at e;rw[e];exact Bx.body_no hb d
abbrev chZ:List Value:=[.int .u8 0,.string {data:= #[]},.int .i64 0]
theorem dR {n q:Nat}{w e:World} (h:Below n w e) (d:n≤q) (J G I:Value):Below n w (((e.setCell ⟨q,0,none⟩ J).setCell ⟨q,1,none⟩ G).setCell ⟨q,2,none⟩ I):=((h.setCell d _).setCell d _).setCell d _
structure ChgA (w W:World) (q:Nat) (k:Int) (t:ByteArray) (n:Int):Prop where
 r:Cl W w.heap.size 178 chZ
 c:Cl W q 178 [.int .u8 k,.string t,.int .i64 n]
 b:Below w.heap.size w W
 ne:w.heap.size<q
set_option maxRecDepth 10000 in
set_option maxHeartbeats 0 in
theorem lF (b:ByteArray) (w:World) (hs:b.size≤100000):
 Calls Tryz.prog 171 #[.string b] w fun e w'=>ChgP b w w' e:=by
 have aq:=dx w (.cells #[.int .u8 0,.string {data:= #[]},.int .i64 0] 178);have hr:=Cl.new w chZ 178
 by_cases h0:b.size=0
 ·have aI:b={data:= #[]}:=by
   have:b=ByteArray.empty:=by simpa using h0
   rw[this];rfl
  subst aI
  go_enter Tryz.func171,Tryz.ntmps171
  go_upto_region 1 with fail;have ag:Cl (w.alloc (.cells #[.int .u8 0,.string {data:= #[]},.int .i64 0] 178)) w.heap.size 178 chZ:=hr;clear hr;generalize w.alloc (.cells #[.int .u8 0,.string {data:= #[]},.int .i64 0] 178)=W at *;have HB:=Hq aq;have r0:=ag.c 0 _ rfl;have r1:=ag.c 1 _ rfl;have Q:=ag.c 2 _ rfl;have f0:=ag.f 0 (by simp);have f1:=ag.f 1 (by simp);have f2:=ag.f 2 (by simp)
  have Z:=ag.ty.lt;clear ag aq;go_wp2_with fail;refine bodyPost_ret (v:=.tuple #[chV ⟨0,{data:= #[]},0⟩,.bool false]) (by simp[results,Tryz.results171,go_sem,r0,r1,Q]) rfl ?_
  exact⟨_,false,rfl,fun h=>(by cases h),fun _=>Bx.empty_no.1,by simp,dR HB.out (Nat.le_refl _) _ _ _⟩
 ·have O:0<b.size:=by omega
  obtain⟨k,hk⟩:∃k:Int,(b[0].toNat:Int)=k:=⟨_,rfl⟩;have am:0≤k∧k<256:=by have:=b[0].toNat_lt;omega
  have aK:b.toList.isEmpty=false:=by
   cases Y:b.toList.isEmpty
   ·rfl
   ·exfalso
    have hz:b.toList.length=0:=by simpa [List.isEmpty_iff] using Y
    have aH:b.toList.length=b.size:=by simp[ByteArray.toList_eq]
    omega
  have HK:=Hq hk;have aC:=aq.alloc (by simp) (.cells #[.int .u8 k,.string {data:= #[]},.int .i64 0] 178)
  have aE:=hr.later (dx _ (.cells #[.int .u8 k,.string {data:= #[]},.int .i64 0] 178));have ax:=Cl.new (w.alloc (.cells #[.int .u8 0,.string {data:= #[]},.int .i64 0] 178)) [.int .u8 k,.string {data:= #[]},.int .i64 0] 178;have aF:(w.alloc (.cells #[.int .u8 0,.string {data:= #[]},.int .i64 0] 178)).heap.size=w.heap.size+1:=by simp
  rw[aF] at ax;have aS:(1:Int)≤(b.size:Int):=by omega
  have aH:(0:Int)<(b.size:Int):=by omega
  clear aF aq hr h0
  go_enter Tryz.func171,Tryz.ntmps171
  go_upto_region 4 with fail;have aD:ChgA w ((w.alloc (.cells #[.int .u8 0,.string {data:= #[]},.int .i64 0] 178)).alloc (.cells #[.int .u8 k,.string {data:= #[]},.int .i64 0] 178)) (w.heap.size+1) k {data:= #[]} 0:=⟨aE,ax,aC,by omega⟩
  clear aC aE ax;generalize (w.alloc (.cells #[.int .u8 0,.string {data:= #[]},.int .i64 0] 178)).alloc (.cells #[.int .u8 k,.string {data:= #[]},.int .i64 0] 178)=W at *;generalize w.heap.size+1=q at *;have d:=Hq aD;clear aD
  by_cases av:k=84
  ·subst av;have HY:Hid (Bx.IsCh b ⟨84,b.extract 1 b.size,0⟩):=tB O HK.out;have aG:(b.extract 1 b.size).size≤b.size:=by rw[ByteArray.size_extract];omega
   have g1:W.cell? ⟨q,1,none⟩=some (.string {data:= #[]}):=d.out.c.c 1 _ rfl;have gf:=d.out.c.f 1 (by simp)
   have G:=d.out.c.ty.lt;go_upto_region 7 with fail;clear g1 gf G hk;have J:ChgA w (W.setCell ⟨q,1,none⟩ (.string (b.extract 1 b.size))) q 84 (b.extract 1 b.size) 0:=⟨d.out.r.far (by have:=d.out.ne;omega) _ _,d.out.c.set 1 (by simp) _,d.out.b.setCell (by have:=d.out.ne;exact Nat.le_of_lt this) _,d.out.ne⟩
   clear d;generalize W.setCell ⟨q,1,none⟩ (.string (b.extract 1 b.size))=W3 at *;generalize b.extract 1 b.size=t at *;have d:=Hq J;clear J;have r0:=d.out.r.c 0 _ rfl;have r1:=d.out.r.c 1 _ rfl;have Q:=d.out.r.c 2 _ rfl;have f0:=d.out.r.f 0 (by simp);have f1:=d.out.r.f 1 (by simp);have f2:=d.out.r.f 2 (by simp)
   have c0:=d.out.c.c 0 _ rfl;have c1:=d.out.c.c 1 _ rfl;have c2:=d.out.c.c 2 _ rfl;have Z:=d.out.r.ty.lt;have G:=d.out.c.ty.lt;have aa:=d.out.ne;go_wp2_with fail;refine bodyPost_ret (v:=.tuple #[chV ⟨84,t,0⟩,.bool true]) (by simp[results,Tryz.results171,go_sem,r0,r1,Q]) rfl ?_
   exact⟨_,true,rfl,fun _=>HY.out,fun h=>(by cases h),aG,dR d.out.b (Nat.le_refl _) _ _ _⟩
  ·have aN:(k==84)=false:=by rw[beq_eq_false_iff_ne];exact av
   by_cases az:k=67
   ·subst az;have U:Hid (∀c,Bx.IsCh b c→b.size=6):=fun c Y=>(fT O HK.out am Y).2.1 rfl
    have V:Hid (b.size=6→Bx.IsCh b ⟨67,{data:= #[]},numW (b.extract 1 b.size).data.toList⟩):=fun e=>tH O HK.out e
    have ad:Hid (∀W:World,Calls Tryz.prog 195 #[.string (b.extract 1 b.size)] W fun e w'=>e=.returned (.int .i64 (numW (b.extract 1 b.size).data.toList))∧w'=W):=fun W=>eG _ W (by rw[ByteArray.size_extract];omega)
    go_wp2_with fail;refine (ad.out _).mono ?_;rintro e w4 ⟨rfl,hw⟩;have ab:=hw.symm;subst ab;clear hw;generalize numW (b.extract 1 b.size).data.toList=n at *;have g2:W.cell? ⟨q,2,none⟩=some (.int .i64 0):=d.out.c.c 2 _ rfl;have gf:=d.out.c.f 2 (by simp)
    have G:=d.out.c.ty.lt;go_upto_region 10 with fail;clear g2 gf G hk;have J:ChgA w (W.setCell ⟨q,2,none⟩ (.int .i64 n)) q 67 {data:= #[]} n:=⟨d.out.r.far (by have:=d.out.ne;omega) _ _,d.out.c.set 2 (by simp) _,d.out.b.setCell (by have:=d.out.ne;exact Nat.le_of_lt this) _,d.out.ne⟩
    clear d;generalize W.setCell ⟨q,2,none⟩ (.int .i64 n)=W3 at *;have d:=Hq J;clear J
    by_cases I:b.size=6
    ·have HY:Hid (Bx.IsCh b ⟨67,{data:= #[]},n⟩):=V.out I;have ae:((b.size:Int)==6)=true:=by rw[beq_iff_eq];omega
     have ac:decide ((b.size:Int)=6)=true:=decide_eq_true (by omega)
     clear I ac U V;have r0:=d.out.r.c 0 _ rfl;have r1:=d.out.r.c 1 _ rfl;have Q:=d.out.r.c 2 _ rfl;have f0:=d.out.r.f 0 (by simp);have f1:=d.out.r.f 1 (by simp);have f2:=d.out.r.f 2 (by simp)
     have c0:=d.out.c.c 0 _ rfl;have c1:=d.out.c.c 1 _ rfl;have c2:=d.out.c.c 2 _ rfl;have Z:=d.out.r.ty.lt;have G:=d.out.c.ty.lt;have aa:=d.out.ne;go_wp2_with fail;refine bodyPost_ret (v:=.tuple #[chV ⟨67,{data:= #[]},n⟩,.bool true]) (by simp[results,Tryz.results171,go_sem,r0,r1,Q]) rfl ?_
     exact⟨_,true,rfl,fun _=>HY.out,fun h=>(by cases h),Nat.zero_le _,dR d.out.b (Nat.le_refl _) _ _ _⟩
    ·have HN:Hid (¬∃c,Bx.IsCh b c):=fun ⟨c,Y⟩=>I (U.out c Y)
     have ae:((b.size:Int)==6)=false:=by rw[beq_eq_false_iff_ne];omega
     have r0:=d.out.r.c 0 _ rfl;have r1:=d.out.r.c 1 _ rfl;have Q:=d.out.r.c 2 _ rfl;have f0:=d.out.r.f 0 (by simp);have f1:=d.out.r.f 1 (by simp);have f2:=d.out.r.f 2 (by simp)
     have c0:=d.out.c.c 0 _ rfl;have c1:=d.out.c.c 1 _ rfl;have c2:=d.out.c.c 2 _ rfl;have Z:=d.out.r.ty.lt;have G:=d.out.c.ty.lt;have aa:=d.out.ne;go_wp2_with fail;refine bodyPost_ret (v:=.tuple #[chV ⟨67,{data:= #[]},n⟩,.bool false]) (by simp[results,Tryz.results171,go_sem,r0,r1,Q]) rfl ?_
     exact⟨_,false,rfl,fun h=>(by cases h),fun _=>HN.out,Nat.zero_le _,dR d.out.b (Nat.le_refl _) _ _ _⟩
   ·have aQ:(k==67)=false:=by rw[beq_eq_false_iff_ne];exact az
    by_cases aw:k=83
    ·subst aw;have U:Hid (∀c,Bx.IsCh b c→b.size=3):=fun c Y=>(fT O HK.out am Y).2.2 (Or.inl rfl)
     have V:Hid (b.size=3→Bx.IsCh b ⟨83,{data:= #[]},numW (b.extract 1 b.size).data.toList⟩):=fun e=>jW O HK.out (Or.inl rfl) e
     have ad:Hid (∀W:World,Calls Tryz.prog 195 #[.string (b.extract 1 b.size)] W fun e w'=>e=.returned (.int .i64 (numW (b.extract 1 b.size).data.toList))∧w'=W):=fun W=>eG _ W (by rw[ByteArray.size_extract];omega)
     go_wp2_with fail;refine (ad.out _).mono ?_;rintro e w4 ⟨rfl,hw⟩;have ab:=hw.symm;subst ab;clear hw;generalize numW (b.extract 1 b.size).data.toList=n at *;have g2:W.cell? ⟨q,2,none⟩=some (.int .i64 0):=d.out.c.c 2 _ rfl;have gf:=d.out.c.f 2 (by simp)
     have G:=d.out.c.ty.lt;go_upto_region 16 with fail;clear g2 gf G hk;have J:ChgA w (W.setCell ⟨q,2,none⟩ (.int .i64 n)) q 83 {data:= #[]} n:=⟨d.out.r.far (by have:=d.out.ne;omega) _ _,d.out.c.set 2 (by simp) _,d.out.b.setCell (by have:=d.out.ne;exact Nat.le_of_lt this) _,d.out.ne⟩
     clear d;generalize W.setCell ⟨q,2,none⟩ (.int .i64 n)=W3 at *;have d:=Hq J;clear J
     by_cases I:b.size=3
     ·have HY:Hid (Bx.IsCh b ⟨83,{data:= #[]},n⟩):=V.out I;have ae:((b.size:Int)==3)=true:=by rw[beq_iff_eq];omega
      have ac:decide ((b.size:Int)=3)=true:=decide_eq_true (by omega)
      clear I ac U V;have r0:=d.out.r.c 0 _ rfl;have r1:=d.out.r.c 1 _ rfl;have Q:=d.out.r.c 2 _ rfl;have f0:=d.out.r.f 0 (by simp);have f1:=d.out.r.f 1 (by simp);have f2:=d.out.r.f 2 (by simp)
      have c0:=d.out.c.c 0 _ rfl;have c1:=d.out.c.c 1 _ rfl;have c2:=d.out.c.c 2 _ rfl;have Z:=d.out.r.ty.lt;have G:=d.out.c.ty.lt;have aa:=d.out.ne;go_wp2_with fail;refine bodyPost_ret (v:=.tuple #[chV ⟨83,{data:= #[]},n⟩,.bool true]) (by simp[results,Tryz.results171,go_sem,r0,r1,Q]) rfl ?_
      exact⟨_,true,rfl,fun _=>HY.out,fun h=>(by cases h),Nat.zero_le _,dR d.out.b (Nat.le_refl _) _ _ _⟩
     ·have HN:Hid (¬∃c,Bx.IsCh b c):=fun ⟨c,Y⟩=>I (U.out c Y)
      have ae:((b.size:Int)==3)=false:=by rw[beq_eq_false_iff_ne];omega
      have r0:=d.out.r.c 0 _ rfl;have r1:=d.out.r.c 1 _ rfl;have Q:=d.out.r.c 2 _ rfl;have f0:=d.out.r.f 0 (by simp);have f1:=d.out.r.f 1 (by simp);have f2:=d.out.r.f 2 (by simp)
      have c0:=d.out.c.c 0 _ rfl;have c1:=d.out.c.c 1 _ rfl;have c2:=d.out.c.c 2 _ rfl;have Z:=d.out.r.ty.lt;have G:=d.out.c.ty.lt;have aa:=d.out.ne;go_wp2_with fail;refine bodyPost_ret (v:=.tuple #[chV ⟨83,{data:= #[]},n⟩,.bool false]) (by simp[results,Tryz.results171,go_sem,r0,r1,Q]) rfl ?_
      exact⟨_,false,rfl,fun h=>(by cases h),fun _=>HN.out,Nat.zero_le _,dR d.out.b (Nat.le_refl _) _ _ _⟩
    ·have aJ:(k==83)=false:=by rw[beq_eq_false_iff_ne];exact aw
     by_cases ar:k=68
     ·subst ar;have U:Hid (∀c,Bx.IsCh b c→b.size=3):=fun c Y=>(fT O HK.out am Y).2.2 (Or.inr (Or.inl rfl))
      have V:Hid (b.size=3→Bx.IsCh b ⟨68,{data:= #[]},numW (b.extract 1 b.size).data.toList⟩):=fun e=>jW O HK.out (Or.inr (Or.inl rfl)) e
      have ad:Hid (∀W:World,Calls Tryz.prog 195 #[.string (b.extract 1 b.size)] W fun e w'=>e=.returned (.int .i64 (numW (b.extract 1 b.size).data.toList))∧w'=W):=fun W=>eG _ W (by rw[ByteArray.size_extract];omega)
      go_wp2_with fail;refine (ad.out _).mono ?_;rintro e w4 ⟨rfl,hw⟩;have ab:=hw.symm;subst ab;clear hw;generalize numW (b.extract 1 b.size).data.toList=n at *;have g2:W.cell? ⟨q,2,none⟩=some (.int .i64 0):=d.out.c.c 2 _ rfl;have gf:=d.out.c.f 2 (by simp)
      have G:=d.out.c.ty.lt;go_upto_region 16 with fail;clear g2 gf G hk;have J:ChgA w (W.setCell ⟨q,2,none⟩ (.int .i64 n)) q 68 {data:= #[]} n:=⟨d.out.r.far (by have:=d.out.ne;omega) _ _,d.out.c.set 2 (by simp) _,d.out.b.setCell (by have:=d.out.ne;exact Nat.le_of_lt this) _,d.out.ne⟩
      clear d;generalize W.setCell ⟨q,2,none⟩ (.int .i64 n)=W3 at *;have d:=Hq J;clear J
      by_cases I:b.size=3
      ·have HY:Hid (Bx.IsCh b ⟨68,{data:= #[]},n⟩):=V.out I;have ae:((b.size:Int)==3)=true:=by rw[beq_iff_eq];omega
       have ac:decide ((b.size:Int)=3)=true:=decide_eq_true (by omega)
       clear I ac U V;have r0:=d.out.r.c 0 _ rfl;have r1:=d.out.r.c 1 _ rfl;have Q:=d.out.r.c 2 _ rfl;have f0:=d.out.r.f 0 (by simp);have f1:=d.out.r.f 1 (by simp);have f2:=d.out.r.f 2 (by simp)
       have c0:=d.out.c.c 0 _ rfl;have c1:=d.out.c.c 1 _ rfl;have c2:=d.out.c.c 2 _ rfl;have Z:=d.out.r.ty.lt;have G:=d.out.c.ty.lt;have aa:=d.out.ne;go_wp2_with fail;refine bodyPost_ret (v:=.tuple #[chV ⟨68,{data:= #[]},n⟩,.bool true]) (by simp[results,Tryz.results171,go_sem,r0,r1,Q]) rfl ?_
       exact⟨_,true,rfl,fun _=>HY.out,fun h=>(by cases h),Nat.zero_le _,dR d.out.b (Nat.le_refl _) _ _ _⟩
      ·have HN:Hid (¬∃c,Bx.IsCh b c):=fun ⟨c,Y⟩=>I (U.out c Y)
       have ae:((b.size:Int)==3)=false:=by rw[beq_eq_false_iff_ne];omega
       have r0:=d.out.r.c 0 _ rfl;have r1:=d.out.r.c 1 _ rfl;have Q:=d.out.r.c 2 _ rfl;have f0:=d.out.r.f 0 (by simp);have f1:=d.out.r.f 1 (by simp);have f2:=d.out.r.f 2 (by simp)
       have c0:=d.out.c.c 0 _ rfl;have c1:=d.out.c.c 1 _ rfl;have c2:=d.out.c.c 2 _ rfl;have Z:=d.out.r.ty.lt;have G:=d.out.c.ty.lt;have aa:=d.out.ne;go_wp2_with fail;refine bodyPost_ret (v:=.tuple #[chV ⟨68,{data:= #[]},n⟩,.bool false]) (by simp[results,Tryz.results171,go_sem,r0,r1,Q]) rfl ?_
       exact⟨_,false,rfl,fun h=>(by cases h),fun _=>HN.out,Nat.zero_le _,dR d.out.b (Nat.le_refl _) _ _ _⟩
     ·have aP:(k==68)=false:=by rw[beq_eq_false_iff_ne];exact ar
      by_cases au:k=70
      ·subst au;have U:Hid (∀c,Bx.IsCh b c→b.size=3):=fun c Y=>(fT O HK.out am Y).2.2 (Or.inr (Or.inr (Or.inl rfl)))
       have V:Hid (b.size=3→Bx.IsCh b ⟨70,{data:= #[]},numW (b.extract 1 b.size).data.toList⟩):=fun e=>jW O HK.out (Or.inr (Or.inr (Or.inl rfl))) e
       have ad:Hid (∀W:World,Calls Tryz.prog 195 #[.string (b.extract 1 b.size)] W fun e w'=>e=.returned (.int .i64 (numW (b.extract 1 b.size).data.toList))∧w'=W):=fun W=>eG _ W (by rw[ByteArray.size_extract];omega)
       go_wp2_with fail;refine (ad.out _).mono ?_;rintro e w4 ⟨rfl,hw⟩;have ab:=hw.symm;subst ab;clear hw;generalize numW (b.extract 1 b.size).data.toList=n at *;have g2:W.cell? ⟨q,2,none⟩=some (.int .i64 0):=d.out.c.c 2 _ rfl;have gf:=d.out.c.f 2 (by simp)
       have G:=d.out.c.ty.lt;go_upto_region 16 with fail;clear g2 gf G hk;have J:ChgA w (W.setCell ⟨q,2,none⟩ (.int .i64 n)) q 70 {data:= #[]} n:=⟨d.out.r.far (by have:=d.out.ne;omega) _ _,d.out.c.set 2 (by simp) _,d.out.b.setCell (by have:=d.out.ne;exact Nat.le_of_lt this) _,d.out.ne⟩
       clear d;generalize W.setCell ⟨q,2,none⟩ (.int .i64 n)=W3 at *;have d:=Hq J;clear J
       by_cases I:b.size=3
       ·have HY:Hid (Bx.IsCh b ⟨70,{data:= #[]},n⟩):=V.out I;have ae:((b.size:Int)==3)=true:=by rw[beq_iff_eq];omega
        have ac:decide ((b.size:Int)=3)=true:=decide_eq_true (by omega)
        clear I ac U V;have r0:=d.out.r.c 0 _ rfl;have r1:=d.out.r.c 1 _ rfl;have Q:=d.out.r.c 2 _ rfl;have f0:=d.out.r.f 0 (by simp);have f1:=d.out.r.f 1 (by simp);have f2:=d.out.r.f 2 (by simp)
        have c0:=d.out.c.c 0 _ rfl;have c1:=d.out.c.c 1 _ rfl;have c2:=d.out.c.c 2 _ rfl;have Z:=d.out.r.ty.lt;have G:=d.out.c.ty.lt;have aa:=d.out.ne;go_wp2_with fail;refine bodyPost_ret (v:=.tuple #[chV ⟨70,{data:= #[]},n⟩,.bool true]) (by simp[results,Tryz.results171,go_sem,r0,r1,Q]) rfl ?_
        exact⟨_,true,rfl,fun _=>HY.out,fun h=>(by cases h),Nat.zero_le _,dR d.out.b (Nat.le_refl _) _ _ _⟩
       ·have HN:Hid (¬∃c,Bx.IsCh b c):=fun ⟨c,Y⟩=>I (U.out c Y)
        have ae:((b.size:Int)==3)=false:=by rw[beq_eq_false_iff_ne];omega
        have r0:=d.out.r.c 0 _ rfl;have r1:=d.out.r.c 1 _ rfl;have Q:=d.out.r.c 2 _ rfl;have f0:=d.out.r.f 0 (by simp);have f1:=d.out.r.f 1 (by simp);have f2:=d.out.r.f 2 (by simp)
        have c0:=d.out.c.c 0 _ rfl;have c1:=d.out.c.c 1 _ rfl;have c2:=d.out.c.c 2 _ rfl;have Z:=d.out.r.ty.lt;have G:=d.out.c.ty.lt;have aa:=d.out.ne;go_wp2_with fail;refine bodyPost_ret (v:=.tuple #[chV ⟨70,{data:= #[]},n⟩,.bool false]) (by simp[results,Tryz.results171,go_sem,r0,r1,Q]) rfl ?_
        exact⟨_,false,rfl,fun h=>(by cases h),fun _=>HN.out,Nat.zero_le _,dR d.out.b (Nat.le_refl _) _ _ _⟩
      ·have aR:(k==70)=false:=by rw[beq_eq_false_iff_ne];exact au
       by_cases ay:k=75
       ·subst ay;have U:Hid (∀c,Bx.IsCh b c→b.size=3):=fun c Y=>(fT O HK.out am Y).2.2 (Or.inr (Or.inr (Or.inr rfl)))
        have V:Hid (b.size=3→Bx.IsCh b ⟨75,{data:= #[]},numW (b.extract 1 b.size).data.toList⟩):=fun e=>jW O HK.out (Or.inr (Or.inr (Or.inr rfl))) e
        have ad:Hid (∀W:World,Calls Tryz.prog 195 #[.string (b.extract 1 b.size)] W fun e w'=>e=.returned (.int .i64 (numW (b.extract 1 b.size).data.toList))∧w'=W):=fun W=>eG _ W (by rw[ByteArray.size_extract];omega)
        go_wp2_with fail;refine (ad.out _).mono ?_;rintro e w4 ⟨rfl,hw⟩;have ab:=hw.symm;subst ab;clear hw;generalize numW (b.extract 1 b.size).data.toList=n at *;have g2:W.cell? ⟨q,2,none⟩=some (.int .i64 0):=d.out.c.c 2 _ rfl;have gf:=d.out.c.f 2 (by simp)
        have G:=d.out.c.ty.lt;go_upto_region 16 with fail;clear g2 gf G hk;have J:ChgA w (W.setCell ⟨q,2,none⟩ (.int .i64 n)) q 75 {data:= #[]} n:=⟨d.out.r.far (by have:=d.out.ne;omega) _ _,d.out.c.set 2 (by simp) _,d.out.b.setCell (by have:=d.out.ne;exact Nat.le_of_lt this) _,d.out.ne⟩
        clear d;generalize W.setCell ⟨q,2,none⟩ (.int .i64 n)=W3 at *;have d:=Hq J;clear J
        by_cases I:b.size=3
        ·have HY:Hid (Bx.IsCh b ⟨75,{data:= #[]},n⟩):=V.out I;have ae:((b.size:Int)==3)=true:=by rw[beq_iff_eq];omega
         have ac:decide ((b.size:Int)=3)=true:=decide_eq_true (by omega)
         clear I ac U V;have r0:=d.out.r.c 0 _ rfl;have r1:=d.out.r.c 1 _ rfl;have Q:=d.out.r.c 2 _ rfl;have f0:=d.out.r.f 0 (by simp);have f1:=d.out.r.f 1 (by simp);have f2:=d.out.r.f 2 (by simp)
         have c0:=d.out.c.c 0 _ rfl;have c1:=d.out.c.c 1 _ rfl;have c2:=d.out.c.c 2 _ rfl;have Z:=d.out.r.ty.lt;have G:=d.out.c.ty.lt;have aa:=d.out.ne;go_wp2_with fail;refine bodyPost_ret (v:=.tuple #[chV ⟨75,{data:= #[]},n⟩,.bool true]) (by simp[results,Tryz.results171,go_sem,r0,r1,Q]) rfl ?_
         exact⟨_,true,rfl,fun _=>HY.out,fun h=>(by cases h),Nat.zero_le _,dR d.out.b (Nat.le_refl _) _ _ _⟩
        ·have HN:Hid (¬∃c,Bx.IsCh b c):=fun ⟨c,Y⟩=>I (U.out c Y)
         have ae:((b.size:Int)==3)=false:=by rw[beq_eq_false_iff_ne];omega
         have r0:=d.out.r.c 0 _ rfl;have r1:=d.out.r.c 1 _ rfl;have Q:=d.out.r.c 2 _ rfl;have f0:=d.out.r.f 0 (by simp);have f1:=d.out.r.f 1 (by simp);have f2:=d.out.r.f 2 (by simp)
         have c0:=d.out.c.c 0 _ rfl;have c1:=d.out.c.c 1 _ rfl;have c2:=d.out.c.c 2 _ rfl;have Z:=d.out.r.ty.lt;have G:=d.out.c.ty.lt;have aa:=d.out.ne;go_wp2_with fail;refine bodyPost_ret (v:=.tuple #[chV ⟨75,{data:= #[]},n⟩,.bool false]) (by simp[results,Tryz.results171,go_sem,r0,r1,Q]) rfl ?_
         exact⟨_,false,rfl,fun h=>(by cases h),fun _=>HN.out,Nat.zero_le _,dR d.out.b (Nat.le_refl _) _ _ _⟩
       ·have aM:(k==75)=false:=by rw[beq_eq_false_iff_ne];exact ay
        have HN:Hid (¬∃c,Bx.IsCh b c):=pJ O HK.out am ⟨av,az,aw,ar,au,ay⟩;have r0:=d.out.r.c 0 _ rfl;have r1:=d.out.r.c 1 _ rfl;have Q:=d.out.r.c 2 _ rfl;have f0:=d.out.r.f 0 (by simp);have f1:=d.out.r.f 1 (by simp);have f2:=d.out.r.f 2 (by simp)
        have c0:=d.out.c.c 0 _ rfl;have c1:=d.out.c.c 1 _ rfl;have c2:=d.out.c.c 2 _ rfl;have Z:=d.out.r.ty.lt;have G:=d.out.c.ty.lt;have aa:=d.out.ne;go_wp2_with fail;refine bodyPost_ret (v:=.tuple #[chV ⟨k,{data:= #[]},0⟩,.bool false]) (by simp[results,Tryz.results171,go_sem,r0,r1,Q]) rfl ?_
        exact⟨_,false,rfl,fun h=>(by cases h),fun _=>HN.out,Nat.zero_le _,dR d.out.b (Nat.le_refl _) _ _ _⟩
attribute [local go_sem] Bx.be_size
theorem jK {α:Type} (f:α→ByteArray) (l:List α) (k:Nat) (h:k<l.length):Bx.cat ((l.take (k+1)).map f)=Bx.cat ((l.take k).map f)++f l[k]:=by
 rw[List.take_succ_eq_append_getElem h,List.map_append,List.map_cons,List.map_nil,Bx.cat_snoc]
theorem l8 (x:Bx.Sl) (y:ByteArray) (d:y=Bx.be (Bx.mk1 x.runs) 1) (t:ByteArray):t++Bx.be x.num 2++Bx.be x.line 1++Bx.be x.minute 5++Bx.be x.att 1++Bx.be x.frm 5++y=t++Bx.encSl x:=by
 subst d;unfold Bx.encSl;simp only [ByteArray.append_assoc]
def whHead (s:Bx.St):ByteArray:={data:= #[90]}++Bx.be (s.clock+1) 5++Bx.be s.next 2++Bx.be s.tab.size 2++s.tab++Bx.be s.slots.length 1
theorem td (s:Bx.St):whHead s++Bx.cat (s.slots.map Bx.encSl)++Bx.be s.ends.length 1++Bx.cat (s.ends.map Bx.encEn)=Bx.wholeS s:=by
 unfold whHead Bx.wholeS Bx.encSt;have e:({data:= #[90]}:ByteArray)=Bx.b1 90:=by decide
 rw[e];simp only [ByteArray.append_assoc]
theorem lw (s:Bx.St):(whHead s).size=11+s.tab.size:=by
 unfold whHead;simp only [ByteArray.size_append,Bx.be_size];have:({data:= #[90]}:ByteArray).size=1:=rfl;omega
theorem eg (n:Int) (k:Nat) (w:World) (h1:0≤n) (h2:n≤9223372036854775807) (d:k≤10):Calls Tryz.prog 152 #[.int .i64 n,.int .i64 k] w fun e G=>e=.returned (.string (Bx.be n k))∧Below w.heap.size w G:=jI k n w h1 h2 d
set_option maxRecDepth 10000 in
set_option maxHeartbeats 0 in
theorem gT (s:Bx.St) (sl en:Value) (w:World) (hf:Bx.StFit s) (h8:s.slots.length≤255) (h6:s.ends.length≤6) (hS:StAt w s sl en):
 Calls Tryz.prog 117 #[stV s sl en] w fun e d=>e=.returned (.string (Bx.wholeS s))∧Below w.heap.size w d:=by
 obtain⟨ad,ak,rfl,bG⟩:=hS.sl.form;obtain⟨ay,ah,rfl,bv⟩:=hS.en.form;have au:=dx w (stO s (.slice ad s.slots.length ak) (.slice ay s.ends.length ah));have hI:=StIn.new w s (.slice ad s.slots.length ak) (.slice ay s.ends.length ah);have HF:=Hq hf;obtain⟨f1,f2⟩:=hf.c;obtain⟨f3,f4⟩:=hf.n;have f5:=hf.t;have bb:IntKind.i64.wrap (s.clock+1)=s.clock+1:=by rw[IntKind.wrap_i64];omega
 have aP:=Hq hS;clear hf hS
 go_enter Tryz.func117,Tryz.ntmps117
 go_upto_region 1 with fail;generalize w.alloc (stO s (.slice ad s.slots.length ak) (.slice ay s.ends.length ah))=W at *;have HI:=Hq hI;have HB:=Hq au;have HS:=Hq (aP.out.later au);obtain⟨c0,c1,c2,c3,c4⟩:=hI;have hq:w.heap.size<W.heap.size:=World.block_lt_of_cell? _ _ c0;clear au aP;have C0:Hid (∀w:World,Below W.heap.size W w→Calls Tryz.prog 152 #[.int .i64 (s.clock+1),.int .i64 5] w fun e d=>e=.returned (.string (Bx.be (s.clock+1) 5))∧Below W.heap.size W d):=fun w hb=>(eg (s.clock+1) 5 w (by omega) (by omega) (by decide)).mono fun _ _ h=>⟨h.1,hb.trans (h.2.mono hb.size)⟩
 have C1:Hid (∀w:World,Below W.heap.size W w→Calls Tryz.prog 152 #[.int .i64 s.next,.int .i64 2] w fun e d=>e=.returned (.string (Bx.be s.next 2))∧Below W.heap.size W d):=fun w hb=>(eg s.next 2 w (by omega) (by omega) (by decide)).mono fun _ _ h=>⟨h.1,hb.trans (h.2.mono hb.size)⟩
 have C2:Hid (∀w:World,Below W.heap.size W w→Calls Tryz.prog 152 #[.int .i64 (s.tab.size:Int),.int .i64 2] w fun e d=>e=.returned (.string (Bx.be (s.tab.size:Int) 2))∧Below W.heap.size W d):=fun w hb=>(eg (s.tab.size:Int) 2 w (by omega) (by omega) (by decide)).mono fun _ _ h=>⟨h.1,hb.trans (h.2.mono hb.size)⟩
 have C3:Hid (∀w:World,Below W.heap.size W w→Calls Tryz.prog 152 #[.int .i64 (s.slots.length:Int),.int .i64 1] w fun e d=>e=.returned (.string (Bx.be (s.slots.length:Int) 1))∧Below W.heap.size W d):=fun w hb=>(eg (s.slots.length:Int) 1 w (by omega) (by omega) (by decide)).mono fun _ _ h=>⟨h.1,hb.trans (h.2.mono hb.size)⟩
 have q1:¬9223372036854775807<10+s.tab.size:=by omega
 have q2:¬9223372036854775807<10+s.tab.size+1:=by omega
 go_wp2_with fail
 go_cut [3] from 8 to 29 (fun s3 wx=>s3=.string (whHead s)∧Below W.heap.size W wx)
 case first=>
  go_region_held3 (fun d=>∀b o,b<W.heap.size→d.cell? ⟨b,o,none⟩=W.cell? ⟨b,o,none⟩)
   ((intro V Y h1;first |(with_reducible exact J.cell (p:=⟨V,Y,none⟩) h1)|(with_reducible exact O.cell (p:=⟨V,Y,none⟩) h1)|(with_reducible exact Q.cell (p:=⟨V,Y,none⟩) h1)|(with_reducible exact G.cell (p:=⟨V,Y,none⟩) h1)|(with_reducible exact ((Below.refl _ _).drew).cell (p:=⟨V,Y,none⟩) h1)|rfl))
   ((go_at_call 152;
     first
     | (with_reducible refine (C0.out _ ?hb).mono ?_;(case hb=>first |exact J|exact O|exact Q|exact G|exact (Below.refl _ _).drew|exact Below.refl _ _);rintro e v0 ⟨rfl,G⟩)
     | (with_reducible refine (C1.out _ ?hb).mono ?_;(case hb=>first |exact J|exact O|exact Q|exact G|exact (Below.refl _ _).drew|exact Below.refl _ _);rintro e v1 ⟨rfl,Q⟩)
     | (with_reducible refine (C2.out _ ?hb).mono ?_;(case hb=>first |exact J|exact O|exact Q|exact G|exact (Below.refl _ _).drew|exact Below.refl _ _);rintro e v2 ⟨rfl,O⟩)
     | (with_reducible refine (C3.out _ ?hb).mono ?_;(case hb=>first |exact J|exact O|exact Q|exact G|exact (Below.refl _ _).drew|exact Below.refl _ _);rintro e v3 ⟨rfl,J⟩)))
  go_wp2_with fail;go_meet;exact⟨rfl,J⟩
 case rest=>
  obtain⟨rfl,ag⟩:=hcut;rename World=>wh
  have aM:=Hq (HB.out.trans (ag.mono HB.out.size));have bo:=Hq (HI.out.later ag);have bt:=Hq (HS.out.later ag);have br:w.heap.size<wh.heap.size:=Nat.lt_of_lt_of_le hq ag.size;clear c0 c1 c2 c3 c4 hq q1 q2 C0 C1 C2 C3 ag HI HS HB bb;have bn:=lw s;go_wp2_with fail
  go_loopw [3,4] (fun tv i wr=>∃k:Nat,k≤s.slots.length∧i=.int .i64 k∧tv=.string (whHead s++Bx.cat ((s.slots.take k).map Bx.encSl))∧Below wh.heap.size wh wr) (fun _ i _=>s.slots.length-(intOf i).toNat)
  case atStart=>exact⟨0,Nat.zero_le _,rfl,by simp[Bx.cat],Below.refl _ _⟩
  case round=>
   rename World=>wa
   obtain⟨k,hk,rfl,rfl,Z⟩:=hrel;have aj:=Hq Z;have aO:=Hq (bo.out.later Z);have aw:=Hq (bt.out.later Z);have c3:wa.cell? ⟨w.heap.size,3,none⟩=some (.slice ad s.slots.length ak):=aO.out.c3;have a7:w.heap.size<wa.heap.size:=Nat.lt_of_lt_of_le br Z.size;clear Z
   have hz:(whHead s++Bx.cat ((s.slots.take k).map Bx.encSl)).size≤80000:=by
    have h1:=Bx.cat_size Bx.encSl 15 (s.slots.take k) (fun x _=>Bx.encSl_size _)
    have h2:(s.slots.take k).length≤255:=by simp;omega
    rw[ByteArray.size_append,h1,bn];omega
   by_cases U:k<s.slots.length
   ·obtain⟨eb,aB,a2,hv,_,hc⟩:=aw.out.sl.1.some' (by omega)
    cases hv
    obtain⟨d0,d1,d2,d3,d4,d5⟩:=dT hc k U;clear hc;have b1:(0:Int)≤(k:Int):=by omega
    have b2:(k:Int)<(s.slots.length:Int):=by omega
    have hx:=HF.out.es _ (List.getElem_mem U)
    have HN:Hid (whHead s++Bx.cat ((s.slots.take (k+1)).map Bx.encSl)=(whHead s++Bx.cat ((s.slots.take k).map Bx.encSl))++Bx.encSl s.slots[k]):=by
     unfold Hid;rw[jK Bx.encSl s.slots k U,ByteArray.append_assoc]
    generalize s.slots[k]=x at *;generalize whHead s++Bx.cat ((s.slots.take k).map Bx.encSl)=I at *;have n1:=hx.n;have n2:=hx.l;have n3:=hx.m;have n4:=hx.a;have n5:=hx.f;clear hx;have aQ:=dx wa (.cells #[.int .i64 x.num,.int .i64 x.line,.int .i64 x.minute,.int .i64 x.att,.int .i64 x.frm,.bool x.runs] 218);have hX:=Cl.new wa [.int .i64 x.num,.int .i64 x.line,.int .i64 x.minute,.int .i64 x.att,.int .i64 x.frm,.bool x.runs] 218;go_upto_region 6 with fail;have aa:Cl (wa.alloc (.cells #[.int .i64 x.num,.int .i64 x.line,.int .i64 x.minute,.int .i64 x.att,.int .i64 x.frm,.bool x.runs] 218)) wa.heap.size 218 [.int .i64 x.num,.int .i64 x.line,.int .i64 x.minute,.int .i64 x.att,.int .i64 x.frm,.bool x.runs]:=hX;clear hX d0 d1 d2 d3 d4 d5 c3;have ap:=Hq (aj.out.trans (aQ.mono aj.out.size));clear aQ aj a7;generalize wa.alloc (.cells #[.int .i64 x.num,.int .i64 x.line,.int .i64 x.minute,.int .i64 x.att,.int .i64 x.frm,.bool x.runs] 218)=W2 at *;generalize wa.heap.size=xq at *;have HX:=Hq aa;have e0:=aa.c 0 _ rfl;have e1:=aa.c 1 _ rfl;have e2:=aa.c 2 _ rfl;have e3:=aa.c 3 _ rfl;have e4:=aa.c 4 _ rfl;have bs:=aa.ty.lt;clear aa;have C0:Hid (∀w:World,Below W2.heap.size W2 w→Calls Tryz.prog 152 #[.int .i64 x.num,.int .i64 2] w fun e d=>e=.returned (.string (Bx.be x.num 2))∧Below W2.heap.size W2 d):=fun w hb=>(eg x.num 2 w (by omega) (by omega) (by decide)).mono fun _ _ h=>⟨h.1,hb.trans (h.2.mono hb.size)⟩
    have C1:Hid (∀w:World,Below W2.heap.size W2 w→Calls Tryz.prog 152 #[.int .i64 x.line,.int .i64 1] w fun e d=>e=.returned (.string (Bx.be x.line 1))∧Below W2.heap.size W2 d):=fun w hb=>(eg x.line 1 w (by omega) (by omega) (by decide)).mono fun _ _ h=>⟨h.1,hb.trans (h.2.mono hb.size)⟩
    have C2:Hid (∀w:World,Below W2.heap.size W2 w→Calls Tryz.prog 152 #[.int .i64 x.minute,.int .i64 5] w fun e d=>e=.returned (.string (Bx.be x.minute 5))∧Below W2.heap.size W2 d):=fun w hb=>(eg x.minute 5 w (by omega) (by omega) (by decide)).mono fun _ _ h=>⟨h.1,hb.trans (h.2.mono hb.size)⟩
    have C3:Hid (∀w:World,Below W2.heap.size W2 w→Calls Tryz.prog 152 #[.int .i64 x.att,.int .i64 1] w fun e d=>e=.returned (.string (Bx.be x.att 1))∧Below W2.heap.size W2 d):=fun w hb=>(eg x.att 1 w (by omega) (by omega) (by decide)).mono fun _ _ h=>⟨h.1,hb.trans (h.2.mono hb.size)⟩
    have C4:Hid (∀w:World,Below W2.heap.size W2 w→Calls Tryz.prog 152 #[.int .i64 x.frm,.int .i64 5] w fun e d=>e=.returned (.string (Bx.be x.frm 5))∧Below W2.heap.size W2 d):=fun w hb=>(eg x.frm 5 w (by omega) (by omega) (by decide)).mono fun _ _ h=>⟨h.1,hb.trans (h.2.mono hb.size)⟩
    have q1:¬9223372036854775807<I.size+2:=by omega
    have q2:¬9223372036854775807<I.size+2+1:=by omega
    have q3:¬9223372036854775807<I.size+2+1+5:=by omega
    have q4:¬9223372036854775807<I.size+2+1+5+1:=by omega
    have q5:¬9223372036854775807<I.size+2+1+5+1+5:=by omega
    have r1:¬9223372036854775807<I.size+3:=by omega
    have r2:¬9223372036854775807<I.size+8:=by omega
    have r3:¬9223372036854775807<I.size+9:=by omega
    have r4:¬9223372036854775807<I.size+14:=by omega
    have r5:¬9223372036854775807<I.size+15:=by omega
    go_wp2_with fail
    go_cut [3] from 30 to 68 (fun s3 wx=>s3=.string (I++Bx.be x.num 2++Bx.be x.line 1++Bx.be x.minute 5++Bx.be x.att 1++Bx.be x.frm 5)∧Below W2.heap.size W2 wx)
    case first=>
     go_region_held3 (fun d=>∀b o,b<W2.heap.size→d.cell? ⟨b,o,none⟩=W2.cell? ⟨b,o,none⟩)
      ((intro V Y h1;first |(with_reducible exact ac.cell (p:=⟨V,Y,none⟩) h1)|(with_reducible exact J.cell (p:=⟨V,Y,none⟩) h1)|(with_reducible exact O.cell (p:=⟨V,Y,none⟩) h1)|(with_reducible exact Q.cell (p:=⟨V,Y,none⟩) h1)|(with_reducible exact G.cell (p:=⟨V,Y,none⟩) h1)|(with_reducible exact ((Below.refl _ _).drew).cell (p:=⟨V,Y,none⟩) h1)|rfl))
      ((go_at_call 152;
        first
        | (with_reducible refine (C0.out _ ?hb).mono ?_;(case hb=>first |exact ac|exact J|exact O|exact Q|exact G|exact (Below.refl _ _).drew|exact Below.refl _ _);rintro e v0 ⟨rfl,G⟩)
        | (with_reducible refine (C1.out _ ?hb).mono ?_;(case hb=>first |exact ac|exact J|exact O|exact Q|exact G|exact (Below.refl _ _).drew|exact Below.refl _ _);rintro e v1 ⟨rfl,Q⟩)
        | (with_reducible refine (C2.out _ ?hb).mono ?_;(case hb=>first |exact ac|exact J|exact O|exact Q|exact G|exact (Below.refl _ _).drew|exact Below.refl _ _);rintro e v2 ⟨rfl,O⟩)
        | (with_reducible refine (C3.out _ ?hb).mono ?_;(case hb=>first |exact ac|exact J|exact O|exact Q|exact G|exact (Below.refl _ _).drew|exact Below.refl _ _);rintro e v3 ⟨rfl,J⟩)
        | (with_reducible refine (C4.out _ ?hb).mono ?_;(case hb=>first |exact ac|exact J|exact O|exact Q|exact G|exact (Below.refl _ _).drew|exact Below.refl _ _);rintro e v4 ⟨rfl,ac⟩)))
     go_wp2_with fail;go_meet;exact⟨rfl,ac⟩
    case rest=>
     obtain⟨rfl,aC⟩:=hcut;rename World=>wd
     have aR:=Hq (ap.out.trans (aC.mono ap.out.size));have ax:=HX.out.later aC;have e5:wd.cell? ⟨xq,5,none⟩=some (.bool x.runs):=ax.c 5 _ rfl;have bU:=ax.ty.lt;have q6:¬9223372036854775807<I.size+2+1+5+1+5+1:=by omega
     have q7:¬9223372036854775807<I.size+14+1:=by omega
     clear ax aC ap HX e0 e1 e2 e3 e4 bs C0 C1 C2 C3 C4
     cases hr:x.runs
     ·rw[hr] at e5;have HE:Hid (I++Bx.be x.num 2++Bx.be x.line 1++Bx.be x.minute 5++Bx.be x.att 1++Bx.be x.frm 5++{data:= #[0]}=I++Bx.encSl x):=l8 x _ (by rw[hr];decide) I
      clear hr;go_wp2_with fail;go_roundw
      case rel=>exact⟨k+1,by omega,by go_num,by rw[HN.out,←HE.out],aR.out⟩
      case measure=>simp[intOf];omega
     ·rw[hr] at e5;have HE:Hid (I++Bx.be x.num 2++Bx.be x.line 1++Bx.be x.minute 5++Bx.be x.att 1++Bx.be x.frm 5++{data:= #[1]}=I++Bx.encSl x):=l8 x _ (by rw[hr];decide) I
      clear hr;go_wp2_with fail;go_roundw
      case rel=>exact⟨k+1,by omega,by go_num,by rw[HN.out,←HE.out],aR.out⟩
      case measure=>simp[intOf];omega
   ·obtain rfl:k=s.slots.length:=by omega
    have b2:¬(s.slots.length:Int)<(s.slots.length:Int):=by omega
    rw[List.take_length] at hz ⊢;have aE:=Hq (aM.out.trans (aj.out.mono aM.out.size));obtain⟨g0,g1,g2,g3,g4⟩:=aO.out;have aX:Hid (whHead s++Bx.cat (s.slots.map Bx.encSl)++Bx.be s.ends.length 1++Bx.cat (s.ends.map Bx.encEn)=Bx.wholeS s):=td s;clear U c3;go_wp2_with fail;refine (gD s _ _ wa h6 aw.out).mono ?_;rintro e w5 ⟨rfl,aF⟩;have ar:=Hq (aE.out.trans (aF.mono aE.out.size));have aS:=Hq (aw.out.en.later aF);clear g0 g1 g2 g3 g4 aF aE;generalize whHead s++Bx.cat (s.slots.map Bx.encSl)=ty at *;have q1:¬9223372036854775807<ty.size+1:=by omega
    go_wp2_with fail;refine (eg (s.ends.length:Int) 1 _ (by omega) (by omega) (by decide)).mono ?_
    rintro e w6 ⟨rfl,aA⟩;have aN:=Hq (ar.out.trans (aA.mono ar.out.size));have bh:=Hq (aS.out.later aA);clear aA ar aS;have bV:(ty++Bx.be s.ends.length 1).size≤80001:=by rw[ByteArray.size_append,Bx.be_size];omega
    go_wp2_with fail;clear q1;generalize ty++Bx.be s.ends.length 1=tz at *
    go_loopw [3,7] (fun tv i wr=>∃k:Nat,k≤s.ends.length∧i=.int .i64 k∧tv=.string (tz++Bx.cat ((s.ends.take k).map Bx.encEn))∧Below w6.heap.size w6 wr) (fun _ i _=>s.ends.length-(intOf i).toNat)
    case atStart=>exact⟨0,Nat.zero_le _,rfl,by simp[Bx.cat],Below.refl _ _⟩
    case round=>
     obtain⟨k,hk,rfl,rfl,Z⟩:=hrel;have ai:=Hq Z;have hE:=bh.out.later Z;clear Z
     by_cases U:k<s.ends.length
     ·obtain⟨eb,aB,a2,hv,_,hc⟩:=hE.1.some' (by omega)
      cases hv
      have d0:wr.cell? ⟨eb,aB+k*2,none⟩=some (.int .i64 s.ends[k].num):=RowAt.cell ek hc k U 0 (by decide)
      have d1:wr.cell? ⟨eb,aB+k*2+1,none⟩=some (.string s.ends[k].how):=RowAt.cell ek hc k U 1 (by decide)
      have a3:eb<wr.heap.size:=World.block_lt_of_cell? _ _ d0;clear hc hE;have b1:(0:Int)≤(k:Int):=by omega
      have b2:(k:Int)<(s.ends.length:Int):=by omega
      have hx:=HF.out.ee _ (List.getElem_mem U)
      have HN:Hid (tz++Bx.cat ((s.ends.take (k+1)).map Bx.encEn)=(tz++Bx.cat ((s.ends.take k).map Bx.encEn))++Bx.be s.ends[k].num 2++s.ends[k].how):=by
       unfold Hid;rw[jK Bx.encEn s.ends k U];unfold Bx.encEn;simp only [ByteArray.append_assoc]
      have bT:(tz++Bx.cat ((s.ends.take k).map Bx.encEn)).size≤90000:=by
       have h1:=Bx.cat_size Bx.encEn 3 (s.ends.take k) (fun x hx=>by have:=(HF.out.ee x (List.mem_of_mem_take hx)).h;unfold Bx.encEn;rw[ByteArray.size_append,Bx.be_size,this])
       have h2:(s.ends.take k).length≤6:=by simp;omega
       rw[ByteArray.size_append,h1];omega
      generalize s.ends[k]=x at *;generalize tz++Bx.cat ((s.ends.take k).map Bx.encEn)=I at *;have n1:=hx.n;have n2:=hx.h;clear hx;have q1:¬9223372036854775807<I.size+2:=by omega
      have q2:¬9223372036854775807<I.size+2+x.how.size:=by omega
      have q3:¬9223372036854775807<I.size+(2+x.how.size):=by omega
      have HH:=Hq n2;clear n2;have C0:Hid (∀w:World,Below wr.heap.size wr w→Calls Tryz.prog 152 #[.int .i64 x.num,.int .i64 2] w fun e d=>e=.returned (.string (Bx.be x.num 2))∧Below wr.heap.size wr d):=fun w hb=>(eg x.num 2 w (by omega) (by omega) (by decide)).mono fun _ _ h=>⟨h.1,hb.trans (h.2.mono hb.size)⟩
      go_wp2_with fail
      go_region_held3 (fun d=>∀b o,b<wr.heap.size→d.cell? ⟨b,o,none⟩=wr.cell? ⟨b,o,none⟩)
       ((intro V Y h1;first |(with_reducible exact G.cell (p:=⟨V,Y,none⟩) h1)|(with_reducible exact ((Below.refl _ _).drew).cell (p:=⟨V,Y,none⟩) h1)|rfl))
       ((go_at_call 152;
         first
         | (with_reducible refine (C0.out _ ?hb).mono ?_;(case hb=>first |exact G|exact (Below.refl _ _).drew|exact Below.refl _ _);rintro e v0 ⟨rfl,G⟩)))
      rename ∀(b o:Nat),b<wr.heap.size→_=wr.cell? _=>hSold
      have ba:=Hq (ai.out.trans (G.mono ai.out.size));clear hSold G ai d0 d1 a3 C0 q1 q2 q3;go_wp2_with fail;go_roundw
      case rel=>exact⟨k+1,by omega,by go_num,by rw[HN.out],ba.out⟩
      case measure=>simp[intOf];omega
     ·obtain rfl:k=s.ends.length:=by omega
      have b2:¬(s.ends.length:Int)<(s.ends.length:Int):=by omega
      rw[List.take_length,aX.out];clear U;go_wp2_with fail;go_ret;exact⟨rfl,aN.out.trans (ai.out.mono aN.out.size)⟩
end Go.Proofs.YtdajolpoiffimabGreatDoor
