import Derived.Test.YtdajolpoiffimabGreatDoorA3

namespace Go.Proofs.YtdajolpoiffimabGreatDoor
namespace Bx
theorem nx_parse {log b more:ByteArray} (h:Nx log b more):numP 2 ⟨log,false⟩=((b.size:Int),⟨b++(be (Crc.sumR b) 4++more),false⟩)∧txtP (b.size:Int) ⟨b++(be (Crc.sumR b) 4++more),false⟩=(b,⟨be (Crc.sumR b) 4++more,false⟩)∧numP 4 ⟨be (Crc.sumR b) 4++more,false⟩=(Crc.sumR b,⟨more,false⟩):=by
 obtain⟨e,hb⟩:=h;have d:=sum_bd b;refine⟨?_,txtP_app _ _ _ _ rfl,numP_be _ 4 _ _ d.1 (by simpa using d.2)⟩
 have w:log=be (b.size:Int) 2++(b++(be (Crc.sumR b) 4++more)):=by rw[e];unfold frame;simp only [ByteArray.append_assoc]
 rw[w];exact numP_be _ 2 _ _ (by omega) (by simp;omega)
theorem take_math {log body:ByteArray}{l d:Int}{O Y w:PS} (h1:numP 2 ⟨log,false⟩=(l,O)) (h2:txtP l O=(body,Y)) (V:numP 4 Y=(d,w)):
 (w.wrong=true→¬∃b more,Nx log b more)∧(w.wrong=false→d=Crc.sumR body→Nx log body w.rest∧l=body.size)∧(¬d=Crc.sumR body→¬∃b more,Nx log b more):=by
 have I:∀b more,Nx log b more→w.wrong=false∧d=Crc.sumR body:=by
  intro b more e;obtain⟨a1,Z,a3⟩:=nx_parse e;rw[h1] at a1;obtain⟨rfl,rfl⟩:=Prod.mk.inj a1;rw[h2] at Z;obtain⟨rfl,rfl⟩:=Prod.mk.inj Z;rw[V] at a3;obtain⟨rfl,rfl⟩:=Prod.mk.inj a3;exact⟨rfl,rfl⟩
 refine⟨fun G ⟨b,more,e⟩=>?_,fun G J=>?_,fun J ⟨b,more,e⟩=>J (I b more e).2⟩
 ·rw[(I b more e).1] at G;cases G
 ·obtain⟨w2,e2,_,_⟩:=Px.numP_r V G;obtain⟨w1,e1,s1⟩:=Px.txtP_r h2 w2;obtain⟨_,e0,a0,b0⟩:=Px.numP_r h1 w1;have Q:l=(body.size:Int):=s1.symm;have U:log=be l 2++O.rest:=e0;refine⟨⟨?_,by simp at b0;omega⟩,Q⟩
  rw[U,e1,e2,J,Q];unfold frame;simp only [ByteArray.append_assoc]
theorem body_tab (c:Ch):c.kind=84→c.tab.size≤(body c).size:=by
 intro h;unfold body;rw[if_pos h,ByteArray.size_append];omega
end Bx
end Go.Proofs.YtdajolpoiffimabGreatDoor
