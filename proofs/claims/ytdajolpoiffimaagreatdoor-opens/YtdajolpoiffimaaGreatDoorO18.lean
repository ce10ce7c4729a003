/-
  LawOpen.
-/
import Derived.Test.YtdajolpoiffimaaGreatDoorO12
import Derived.Test.YtdajolpoiffimaaGreatDoorO15
import Derived.Test.YtdajolpoiffimaaGreatDoorO17

namespace Go.Proofs.YtdajolpoiffimaaGreatDoor
open Go.RowKit

abbrev pairO2 (B D : Nat) (l r : Int) : Obj := .cells #[.pointer (some ⟨B, 0, none⟩), .pointer (some ⟨D, 0, none⟩), .int .i64 l, .int .i64 r] 33
set_option maxHeartbeats 1000000 in
theorem lopened_no (l r : Int) (log : ByteArray) (w : World) (h : mayB l r = false) : Calls Tryz.prog 9 #[.int .i64 l, .int .i64 r, .string log] w fun e w' => e = .returned (.tuple #[.pointer none, .bool true]) ∧ Below w.heap.size w w' := by
 go_enter Tryz.func9, Tryz.ntmps9
 go_wp2_with fail
 refine (popen_no l r log _ h).mono ?_
 rintro e w1 ⟨rfl, rfl⟩
 go_wp2_with fail
 refine (ropen_no l r log _ h).mono ?_
 rintro e w1 ⟨rfl, rfl⟩
 go_wp2_with ((go_at_call 21; refine (lnum_any _ _).mono ?_; rintro e w3 ⟨rfl, rfl⟩))
 go_ret2
 exact ⟨rfl, Below.refl _ _⟩
set_option maxHeartbeats 1000000 in
theorem lopened_long (l r : Int) (log : ByteArray) (w : World) (h : mayB l r = true) (hl : 4000 < log.size) : Calls Tryz.prog 9 #[.int .i64 l, .int .i64 r, .string log] w fun e w' => e = .returned (.tuple #[.pointer none, .bool true]) ∧ Below w.heap.size w w' := by
 go_enter Tryz.func9, Tryz.ntmps9
 go_wp2_with fail
 refine (popen_long l r log _ h hl).mono ?_
 rintro e w1 ⟨rfl, hb1⟩
 have HB1 : Hid (Below w.heap.size w w1) := hb1
 clear hb1
 go_wp2_with fail
 refine (ropen_long l r log _ h hl).mono ?_
 rintro e w2 ⟨rfl, hw2⟩
 have hw3 := hw2.symm
 subst hw3
 clear hw2
 go_wp2_with ((go_at_call 21; refine (lnum_any _ _).mono ?_; rintro e w3 ⟨rfl, rfl⟩))
 go_ret2
 exact ⟨rfl, HB1.out⟩
/-- What opened answers: a pair. -/
def LOp (l r : Int) (log : ByteArray) (w w' : World) (e : Ending) : Prop := ∃ (P B D : Nat) (s : Px.St) (q : ByteArray), e = .returned (.tuple #[.pointer (some ⟨P, 0, none⟩), .bool true]) ∧ Bx.Says true Bx.first log (Px.abs s) q ∧ Bx.MayS (Px.abs s) ∧
 Duo w' w.heap.size P B D nilV (Px.openB l r s) ⟨l, r, Bx.intS (Px.abs s), Bx.frame (Bx.wholeS (Bx.intS (Px.abs s))), []⟩ ∧ Below w.heap.size w w'
set_option maxRecDepth 10000 in
set_option maxHeartbeats 2000000 in
theorem lopened_yes (l r : Int) (log : ByteArray) (w : World) (h : mayB l r = true) (hl : log.size ≤ 4000) (hT : TT w) : Calls Tryz.prog 9 #[.int .i64 l, .int .i64 r, .string log] w fun e w' => LOp l r log w w' e := by
 have H : Hid (mayB l r = true) := h
 clear h
 go_enter Tryz.func9, Tryz.ntmps9
 go_wp2_with fail
 refine (popen_yes l r log _ H.out hl hT).mono ?_
 rintro e w1 ⟨s, q, n, B, rfl, hsay, hn, hKB⟩
 have HS : Hid (Bx.Says true Bx.first log (Px.abs s) q) := hsay
 have HM : Hid (Bx.MayS (Px.abs s)) := Bx.says_may hsay Bx.first_may
 have HR : Hid (Px.Rel (Px.openB l r s) ⟨l, r, Bx.intS (Px.abs s), Bx.frame (Bx.wholeS (Bx.intS (Px.abs s))), []⟩) := Px.Rel.opened H.out HM.out
 have HK : Hid (KB w w1 B (Px.openB l r s)) := hKB
 have Hn : Hid (n + (q.size : Int) = (log.size : Int)) := hn
 have HLR : Hid ((Px.openB l r s).limit = l ∧ (Px.openB l r s).room = r) := ⟨rfl, rfl⟩
 clear hsay hn hKB
 go_wp2_with fail
 refine (ropen_yes l r log _ H.out hl).mono ?_
 rintro e w2 ⟨S, q', n', D, rfl, hsay', hn', hD, ⟨sl, en, hy⟩, hb2⟩
 obtain ⟨hS, hq⟩ := hsay'.uniq HS.out
 have hnn : n' = n := by have := Hn.out; rw [hq] at hn'; omega
 subst hnn
 rw [hS] at hy
 have hsz1 := HK.out.bl.size
 have hsz2 := hb2.size
 have hpw : PairIn (w2.alloc (pairO2 B D l r)) w2.heap.size B D l r := ⟨by simp [go_sem], by simp [go_sem], by simp [go_sem], by simp [go_sem], Typed.new _ _ _⟩
 obtain ⟨sl1, en1, hx⟩ := HK.out.pb
 have hlo := HK.out.lo
 have hpw2 : PairIn (w2.alloc (pairO2 B D l r)) w2.heap.size B D (Px.openB l r s).limit (Px.openB l r s).room := by rw [HLR.out.1, HLR.out.2]; exact hpw
 have HF : Hid (Duo (w2.alloc (pairO2 B D l r)) w.heap.size w2.heap.size B D nilV (Px.openB l r s) ⟨l, r, Bx.intS (Px.abs s), Bx.frame (Bx.wholeS (Bx.intS (Px.abs s))), []⟩) :=
  ⟨hpw2, ⟨_, _, (hx.later hb2).later (below_alloc _ _)⟩, ⟨_, _, hy.later (below_alloc _ _)⟩, HR.out, ⟨by omega, hlo, by omega⟩⟩
 have HBl : Hid (Below w.heap.size w (w2.alloc (pairO2 B D l r))) := (HK.out.bl.trans (hb2.mono hsz1)).alloc (by omega) _
 clear hy hb2 hpw hpw2 hD hx hS hq hsay' hn' HK HR Hn HLR
 go_wp2_with ((go_at_call 21; refine (lnum_any _ _).mono ?_; rintro e w3 ⟨rfl, rfl⟩))
 go_ret2
 exact ⟨_, _, _, _, _, rfl, HS.out, HM.out, HF.out, HBl.out⟩
set_option maxRecDepth 10000 in
set_option maxHeartbeats 2000000 in
theorem lopens_any (l r : Int) (log : ByteArray) (w : World) (hT : TT w) : Calls Tryz.prog 5 #[.int .i64 l, .int .i64 r, .string log] w fun e w' => e = .returned (.bool true) ∧ Below w.heap.size w w' := by
 cases hmay : mayB l r
 ·go_enter Tryz.func5, Tryz.ntmps5
  go_wp2_with fail
  refine (lopened_no l r log _ hmay).mono ?_
  rintro e w1 ⟨rfl, hb1⟩
  have HB1 : Hid (Below w.heap.size w w1) := hb1
  clear hb1 hmay
  go_wp2_with fail
  go_ret
  exact ⟨rfl, HB1.out⟩
 by_cases hl : 4000 < log.size
 ·go_enter Tryz.func5, Tryz.ntmps5
  go_wp2_with fail
  refine (lopened_long l r log _ hmay hl).mono ?_
  rintro e w1 ⟨rfl, hb1⟩
  have HB1 : Hid (Below w.heap.size w w1) := hb1
  clear hb1 hmay
  go_wp2_with fail
  go_ret
  exact ⟨rfl, HB1.out⟩
 have H : Hid (mayB l r = true) := hmay
 have HT : Hid (TT w) := hT
 clear hmay hT
 go_enter Tryz.func5, Tryz.ntmps5
 go_wp2_with fail
 refine (lopened_yes l r log _ H.out (by omega) HT.out).mono ?_
 rintro e w1 ⟨P, B, D, s, q, rfl, _, hm, hd, hb1⟩
 have HD : Hid (Duo w1 w.heap.size P B D nilV (Px.openB l r s) ⟨l, r, Bx.intS (Px.abs s), Bx.frame (Bx.wholeS (Bx.intS (Px.abs s))), []⟩) := hd
 have HB1 : Hid (Below w.heap.size w w1) := hb1
 have HZ : Hid ((Px.openB l r s).log.size ≤ 4000) := by
  have hmi : Bx.MayS (Px.abs (Px.intP s)) := by rw [Px.int_abs]; exact hm.int
  have := Px.whole_le hmi
  show (Bx.frame (Bx.wholeS (Px.abs (Px.intP s)))).size ≤ 4000
  omega
 clear hd hb1 hm
 generalize Px.openB l r s = b at *
 generalize (⟨l, r, Bx.intS (Px.abs s), Bx.frame (Bx.wholeS (Bx.intS (Px.abs s))), []⟩ : Bx.Bo) = d at *
 go_wp2_with fail
 refine (lall_any _ _ P B D nilV b d HD.out).mono ?_
 rintro e w2 ⟨rfl, hb2⟩
 have HD2 : Hid (Duo w2 w.heap.size P B D nilV b d) := HD.out.later hb2
 have HB2 : Hid (Below w.heap.size w w2) := HB1.out.trans (hb2.mono HB1.out.size)
 have HT2 : Hid (TT w2) := HT.out.later HB2.out
 have c0 := HD2.out.p.c0
 have hP := HD2.out.p.ty.lt
 clear hb2 HD HB1 HT
 go_wp2_with fail
 refine (xlog_any b B _ HD2.out.x).mono ?_
 rintro e w3 ⟨rfl, hw3⟩
 have hw4 := hw3.symm
 subst hw4
 clear hw3
 go_wp2_with fail
 refine (lopened_yes l r b.log _ H.out HZ.out HT2.out).mono ?_
 rintro e w4 ⟨P2, B3, D3, s2, q2, rfl, _, _, hd, hb4⟩
 have HD4 : Hid (Duo w4 w2.heap.size P2 B3 D3 nilV (Px.openB l r s2) ⟨l, r, Bx.intS (Px.abs s2), Bx.frame (Bx.wholeS (Bx.intS (Px.abs s2))), []⟩) := hd
 have HB4 : Hid (Below w.heap.size w w4) := HB2.out.trans (hb4.mono HB2.out.size)
 clear hd hb4 c0 hP
 go_wp2_with fail
 refine (lall_any _ _ P2 B3 D3 nilV _ _ HD4.out).mono ?_
 rintro e w5 ⟨rfl, hb5⟩
 have HB5 : Hid (Below w.heap.size w w5) := HB4.out.trans (hb5.mono HB4.out.size)
 clear hb5
 go_wp2_with fail
 go_ret
 exact ⟨rfl, HB5.out⟩
end Go.Proofs.YtdajolpoiffimaaGreatDoor
