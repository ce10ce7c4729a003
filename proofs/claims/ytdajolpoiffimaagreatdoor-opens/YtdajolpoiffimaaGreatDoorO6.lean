/-
  CalWalks, CalLoops, CalDate, PrgFrame, PrgList, PrgList2, TabFld, TabText, TabNum, TabOpt, TabOpt2, TabPart, TabPart2, TabFld2, TabSplit, TabChk, TabRead, TabRdLine.
-/
import Derived.Deep.QuietTactic
import Derived.BigQuiet
import Derived.Deep.Cut
import Derived.Deep.RegionHeld3
import Derived.Deep.DrawnRows
import Derived.Deep.CutRange
import Derived.Test.YtdajolpoiffimaaGreatDoorO1

namespace Go.Proofs.YtdajolpoiffimaaGreatDoor
open Go.RowKit

/-- The table of the months' lengths lies in memory. -/
def Tab (w : World) : Prop := ∀ m : Int, 1 ≤ m → m ≤ 12 → w.cell? ⟨2, m.toNat - 1, none⟩ = some (.int .i64 (Cal.len m))

set_option maxHeartbeats 400000 in
theorem isLeap_any (y : Int) (w : World) (h1 : 0 ≤ y) (h2 : y ≤ 10000) :
 Calls Tryz.prog 225 #[.int .i64 y] w fun e w' => e = .returned (.bool (Cal.lp y == 1)) ∧ w' = w := by
 by_cases a : y % 400 = 0
 ·have e : Hid (Cal.lp y = 1) := Cal.lp_yes (Or.inl a)
  go_enter Tryz.func225, Tryz.ntmps225
  go_wp2
  go_ret
  exact ⟨by rw [e.out]; rfl, rfl⟩
 ·by_cases b : y % 4 = 0
  ·by_cases c : y % 100 = 0
   ·have e : Hid (Cal.lp y = 0) := Cal.lp_no (by omega)
    go_enter Tryz.func225, Tryz.ntmps225
    go_wp2
    go_ret
    exact ⟨by rw [e.out]; rfl, rfl⟩
   ·have e : Hid (Cal.lp y = 1) := Cal.lp_yes (Or.inr ⟨b, c⟩)
    have c' : (y % 100 != 0) = true := by simpa using c
    go_enter Tryz.func225, Tryz.ntmps225
    go_wp2
    go_ret
    exact ⟨by rw [e.out]; rfl, rfl⟩
  ·have e : Hid (Cal.lp y = 0) := Cal.lp_no (by omega)
   go_enter Tryz.func225, Tryz.ntmps225
   go_wp2
   go_ret
   exact ⟨by rw [e.out]; rfl, rfl⟩

set_option maxHeartbeats 400000 in
theorem lyb_any (y : Int) (w : World) (h1 : 1970 ≤ y) (h2 : y ≤ 10000) :
 Calls Tryz.prog 209 #[.int .i64 y] w fun e w' => e = .returned (.int .i64 ((y - 1) / 4 - (y - 1) / 100 + (y - 1) / 400)) ∧ w' = w := by
 go_enter Tryz.func209, Tryz.ntmps209
 go_wp2
 go_ret
 exact ⟨rfl, rfl⟩

set_option maxHeartbeats 400000 in
theorem dby_any (y : Int) (w : World) (h1 : 1970 ≤ y) (h2 : y ≤ 10000) :
 Calls Tryz.prog 192 #[.int .i64 y] w fun e w' => e = .returned (.int .i64 (Cal.dby y)) ∧ w' = w := by
 have b1 : 0 ≤ (y - 1) / 4 - (y - 1) / 100 + (y - 1) / 400 ∧ (y - 1) / 4 - (y - 1) / 100 + (y - 1) / 400 ≤ 10000 := by omega
 go_enter Tryz.func192, Tryz.ntmps192
 go_wp2_with (go_at_call 209; refine (lyb_any _ _ (by omega) (by omega)).mono ?_; rintro e w' ⟨rfl, rfl⟩)
 go_ret
 exact ⟨ret_int (by unfold Cal.dby; omega), rfl⟩

set_option maxHeartbeats 400000 in
theorem dim_any (y m : Int) (w : World) (hT : Tab w) (h1 : 0 ≤ y) (h2 : y ≤ 10000) (m1 : 1 ≤ m) (m2 : m ≤ 12) :
 Calls Tryz.prog 210 #[.int .i64 y, .int .i64 m] w fun e w' => e = .returned (.int .i64 (Cal.dim y m)) ∧ w' = w := by
 have hc := hT m m1 m2
 clear hT
 by_cases a : m = 2
 ·subst a
  by_cases b : Cal.lp y = 1
  ·have e : Hid (Cal.dim y 2 = 29) := Cal.dim_29 b
   have b' : (Cal.lp y == 1) = true := by simpa using b
   clear b
   go_enter Tryz.func210, Tryz.ntmps210
   go_wp2_with (go_at_call 225; refine (isLeap_any _ _ (by omega) (by omega)).mono ?_; rintro e w' ⟨rfl, rfl⟩)
   go_ret
   exact ⟨ret_int e.out.symm, rfl⟩
  ·have e : Hid (Cal.dim y 2 = 28) := (Cal.dim_len (Or.inr (by have := Cal.lp_01 y; omega))).trans rfl
   have hc2 : w.cell? ⟨2, 1, none⟩ = some (.int .i64 28) := hc
   clear hc
   have b' : (Cal.lp y == 1) = false := by simpa using b
   clear b
   go_enter Tryz.func210, Tryz.ntmps210
   go_wp2_with (go_at_call 225; refine (isLeap_any _ _ (by omega) (by omega)).mono ?_; rintro e w' ⟨rfl, rfl⟩)
   go_ret
   exact ⟨ret_int e.out.symm, rfl⟩
 ·have e : Hid (Cal.dim y m = Cal.len m) := Cal.dim_len (Or.inl a)
  go_enter Tryz.func210, Tryz.ntmps210
  go_wp2_with fail
  go_ret
  exact ⟨ret_int e.out.symm, rfl⟩
end Go.Proofs.YtdajolpoiffimaaGreatDoor

namespace Go.Proofs.YtdajolpoiffimaaGreatDoor
open Go.RowKit

set_option maxHeartbeats 400000 in
theorem cum_any (y m : Int) (w : World) (hT : Tab w) (h1 : 0 ≤ y) (h2 : y ≤ 10000) (m1 : 1 ≤ m) (m2 : m ≤ 12) :
 Calls Tryz.prog 194 #[.int .i64 y, .int .i64 m] w fun e w' => e = .returned (.int .i64 (Cal.cum y m)) ∧ w' = w := by
 have HT : Hid (Tab w) := hT
 clear hT
 go_enter Tryz.func194, Tryz.ntmps194
 go_wp2
 go_loop [5, 6] (fun d k => ∃ b : Int, 1 ≤ b ∧ b ≤ m ∧ k = .int .i64 b ∧ d = .int .i64 (Cal.cum y b)) (fun _ k => (m - intOf k).toNat)
 case atStart => exact ⟨1, by omega, by omega, rfl, by rw [Cal.cum_1]⟩
 case round =>
  obtain ⟨b, hb1, hb2, rfl, rfl⟩ := hrel
  have cb := Cal.cum_bd y b
  have db := Cal.dim_lo y b
  have cs := Cal.cum_succ y b hb1 (by omega)
  have CS : Hid (Cal.cum y (b + 1) = Cal.cum y b + Cal.dim y b) := cs
  clear cs
  by_cases hlt : b < m
  ·have h12 : b ≤ 12 := by omega
   go_wp2_with (go_at_call 210; refine (dim_any _ _ _ HT.out (by omega) (by omega) (by omega) (by omega)).mono ?_; rintro e w' ⟨rfl, rfl⟩)
   go_round
   case rel => exact ⟨b + 1, by omega, by omega, by go_num, by rw [CS.out]⟩
   case measure => simp [intOf]; omega
  ·go_wp2_with fail
   go_ret
   obtain rfl : b = m := by omega
   exact ⟨rfl, rfl⟩

set_option maxHeartbeats 400000 in
theorem monthOf_any (y r : Int) (w : World) (hT : Tab w) (h1 : 0 ≤ y) (h2 : y ≤ 10000) (r1 : 0 ≤ r) (r2 : r < 365 + Cal.lp y) :
 Calls Tryz.prog 193 #[.int .i64 y, .int .i64 r] w fun e w' => (∃ m : Int, 1 ≤ m ∧ m ≤ 12 ∧ Cal.cum y m ≤ r ∧ r < Cal.cum y m + Cal.dim y m ∧ e = .returned (.int .i64 m)) ∧ w' = w := by
 have HT : Hid (Tab w) := hT
 clear hT
 have hl := Cal.lp_01 y
 go_enter Tryz.func193, Tryz.ntmps193
 go_wp2
 go_loop [5] (fun k => ∃ m : Int, 1 ≤ m ∧ m ≤ 12 ∧ Cal.cum y m ≤ r ∧ k = .int .i64 m) (fun k => (12 - intOf k).toNat)
 case atStart => exact ⟨1, by omega, by omega, by rw [Cal.cum_1]; exact r1, rfl⟩
 case round =>
  obtain ⟨m, hm1, hm2, hr, rfl⟩ := hrel
  have CS : Hid (Cal.cum y (m + 1) = Cal.cum y m + Cal.dim y m) := Cal.cum_succ y m hm1 hm2
  have C13 : Hid (Cal.cum y 13 = 365 + Cal.lp y) := Cal.cum_13 y
  by_cases hc : m < 12 ∧ Cal.cum y (m + 1) ≤ r
  ·obtain ⟨hlt, hd⟩ := hc
   go_wp2_with (go_at_call 194; refine (cum_any _ _ _ HT.out (by omega) (by omega) (by omega) (by omega)).mono ?_; rintro e w' ⟨rfl, rfl⟩)
   go_round
   case rel => exact ⟨m + 1, by omega, by omega, hd, rfl⟩
   case measure => simp [intOf]; omega
  ·have hz : r < Cal.cum y m + Cal.dim y m := by
    by_cases e : m = 12
    ·subst e; have := CS.out; have := C13.out; have : Cal.cum y (12 + 1) = Cal.cum y 13 := rfl; omega
    ·have := CS.out; omega
   have hn : m < 12 → r < Cal.cum y (m + 1) := by intro; have := CS.out; omega
   have HZ : Hid (r < Cal.cum y m + Cal.dim y m) := hz
   have HR : Hid (Cal.cum y m ≤ r) := hr
   clear hc hz hr
   by_cases hlt : m < 12
   ·have hn' := hn hlt
    clear hn
    go_wp2_with (go_at_call 194; refine (cum_any _ _ _ HT.out (by omega) (by omega) (by omega) (by omega)).mono ?_; rintro e w' ⟨rfl, rfl⟩)
    go_ret
    exact ⟨⟨m, hm1, hm2, HR.out, HZ.out, rfl⟩, rfl⟩
   ·clear hn
    go_wp2_with fail
    go_ret
    exact ⟨⟨m, hm1, hm2, HR.out, HZ.out, rfl⟩, rfl⟩

set_option maxHeartbeats 400000 in
theorem yearOf_any (n : Int) (w : World) (h1 : 0 ≤ n) (h2 : n ≤ 2932896) :
 Calls Tryz.prog 191 #[.int .i64 n] w fun e w' => (∃ y : Int, 1970 ≤ y ∧ y ≤ 9999 ∧ Cal.dby y ≤ n ∧ n < Cal.dby y + 365 + Cal.lp y ∧ e = .returned (.int .i64 y)) ∧ w' = w := by
 have g0 := Cal.dby_guess n h1
 go_enter Tryz.func191, Tryz.ntmps191
 go_wp2
 go_loop [3] (fun k => ∃ y : Int, 1970 ≤ y ∧ y ≤ 9999 ∧ Cal.dby y ≤ n ∧ k = .int .i64 y) (fun k => (9999 - intOf k).toNat)
 case atStart => exact ⟨_, by omega, by omega, g0, rfl⟩
 case round =>
  obtain ⟨y, hy1, hy2, hy3, rfl⟩ := hrel
  clear g0
  have DS : Hid (Cal.dby (y + 1) = Cal.dby y + 365 + Cal.lp y) := Cal.dby_succ y
  by_cases hc : y < 9999 ∧ Cal.dby (y + 1) ≤ n
  ·obtain ⟨hlt, hd⟩ := hc
   go_wp2_with (go_at_call 192; refine (dby_any _ _ (by omega) (by omega)).mono ?_; rintro e w' ⟨rfl, rfl⟩)
   go_round
   case rel => exact ⟨y + 1, by omega, by omega, hd, rfl⟩
   case measure => simp [intOf]; omega
  ·have hz : n < Cal.dby y + 365 + Cal.lp y := by
    by_cases e : y = 9999
    ·subst e; have := DS.out; have : Cal.dby (9999 + 1) = 2932897 := Cal.dby_10000; omega
    ·have := DS.out; omega
   have HZ : Hid (n < Cal.dby y + 365 + Cal.lp y) := hz
   have hn : y < 9999 → n < Cal.dby (y + 1) := by intro; omega
   have HR : Hid (Cal.dby y ≤ n) := hy3
   clear hc hz hy3
   by_cases hlt : y < 9999
   ·have hn' := hn hlt
    clear hn
    go_wp2_with (go_at_call 192; refine (dby_any _ _ (by omega) (by omega)).mono ?_; rintro e w' ⟨rfl, rfl⟩)
    go_ret
    exact ⟨⟨y, hy1, hy2, HR.out, HZ.out, rfl⟩, rfl⟩
   ·clear hn
    go_wp2_with fail
    go_ret
    exact ⟨⟨y, hy1, hy2, HR.out, HZ.out, rfl⟩, rfl⟩
end Go.Proofs.YtdajolpoiffimaaGreatDoor

namespace Go.Proofs.YtdajolpoiffimaaGreatDoor
open Go.RowKit

theorem Tab.later {w w' : World} (h : Tab w) (hb : Below w.heap.size w w') : Tab w' := fun m a b => cell_later hb (h m a b)
theorem Tab.alloc {w : World} (h : Tab w) (o : Obj) : Tab (w.alloc o) := h.later ((Below.refl _ _).alloc (Nat.le_refl _) _)

set_option maxHeartbeats 1000000 in
theorem cdate_yes (m : Int) (w : World) (hT : Tab w) (h0 : 0 ≤ m) (h1 : m ≤ 4223371679) :
 Calls Tryz.prog 156 #[.int .i64 m] w fun e w' => (∃ y mo d : Int, Cal.IsD (m / 1440) y mo d ∧ e = .returned (.tuple #[dateV y mo d (m % 1440 / 60) (m % 60) ((m / 1440 + 4) % 7), .int .i64 0])) ∧ Below w.heap.size w w' := by
 have HT : Hid (∀ o, Tab (w.alloc o)) := fun o => hT.alloc o
 clear hT
 go_enter Tryz.func156, Tryz.ntmps156
 go_wp2_with (first | (go_at_call 191; refine (yearOf_any _ _ (by omega) (by omega)).mono ?_; rintro e w' ⟨⟨y, hy1, hy2, hy3, hy4, rfl⟩, rfl⟩; have hl := Cal.lp_01 y; have hb := Cal.dby_bd hy1 (Int.le_trans hy2 (by omega))) | (go_at_call 192; refine (dby_any _ _ (by omega) (by omega)).mono ?_; rintro e w' ⟨rfl, rfl⟩) | (go_at_call 193; refine (monthOf_any _ _ _ (HT.out _) (by omega) (by omega) (by omega) (by omega)).mono ?_; rintro e w' ⟨⟨mo, hm1, hm2, hm3, hm4, rfl⟩, rfl⟩; have cb := Cal.cum_bd y mo; have db := Cal.dim_lo y mo) | (go_at_call 194; refine (cum_any _ _ _ (HT.out _) (by omega) (by omega) (by omega) (by omega)).mono ?_; rintro e w' ⟨rfl, rfl⟩))
 refine bodyPost_ret (v := .tuple #[dateV y mo (m / 1440 - Cal.dby y - Cal.cum y mo + 1) (m % 1440 / 60) (m % 60) ((m / 1440 + 4) % 7), .int .i64 0]) (by simp [results, Tryz.results156, go_sem]) rfl
  ⟨⟨y, mo, _, ⟨hy1, hy2, hm1, hm2, by omega, by omega, by omega⟩, rfl⟩, ((Below.refl _ _).alloc (Nat.le_refl _) _).alloc (by simp) _⟩
end Go.Proofs.YtdajolpoiffimaaGreatDoor

namespace Go.Proofs.YtdajolpoiffimaaGreatDoor
open Go.RowKit
attribute [local go_sem] conv1 isU8_int cellInt_int strOfNums_one Bx.be_size

set_option maxHeartbeats 1000000 in
theorem digits_any (n : Int) (k : Nat) (w : World) (h1 : 0 ≤ n) (h2 : n ≤ 9223372036854775807) (hk : k ≤ 10) :
 Calls Tryz.prog 99 #[.int .i64 n, .int .i64 k] w fun e w' => e = .returned (.string (Bx.be n k)) ∧ Below w.heap.size w w' := by
 go_enter Tryz.func99, Tryz.ntmps99
 go_wp2_with fail
 go_loopw [0, 5, 6] (fun a t i wr => ∃ j : Nat, j ≤ k ∧ i = .int .i64 j ∧ a = .int .i64 (n / 256 ^ j) ∧ t = .string (Bx.be n j) ∧ Below w.heap.size w wr) (fun _ _ i _ => k - (intOf i).toNat)
 case atStart => exact ⟨0, Nat.zero_le _, rfl, by simp, rfl, Below.refl _ _⟩
 case round =>
  obtain ⟨j, hj, rfl, rfl, rfl, hbr⟩ := hrel
  have hm1 : 0 ≤ n / 256 ^ j := Int.ediv_nonneg h1 (Int.pow_nonneg (by omega))
  have hm2 : n / 256 ^ j ≤ 9223372036854775807 := Int.le_trans (Int.ediv_le_self _ h1) h2
  have H1 : Hid (strOfNums [n / 256 ^ j % 256] ++ Bx.be n j = Bx.be n (j + 1)) := low_str n j
  have H2 : Hid (n / 256 ^ j / 256 = n / 256 ^ (j + 1)) := low_div n j
  generalize n / 256 ^ j = m at *
  by_cases hlt : j < k
  ·have q0 : IntKind.i64.wrap (m.tdiv 256) = m / 256 := by rw [Int.tdiv_eq_ediv_of_nonneg hm1, IntKind.wrap_i64]; omega
   have q1 : IntKind.u8.wrap (m.tmod 256) = m % 256 := by rw [Int.tmod_eq_emod_of_nonneg hm1, IntKind.wrap_u8]; omega
   have q3 : ¬ 9223372036854775807 < 1 + j := by omega
   go_wp2_with fail
   go_roundw
   case rel => exact ⟨j + 1, by omega, by go_num, by rw [← H2.out], by rw [← H1.out], hbr.alloc hbr.size _⟩
   case measure => simp [intOf]; omega
  ·obtain rfl : j = k := by omega
   go_wp2_with fail
   go_ret
   exact ⟨rfl, hbr⟩
theorem digits_at (a b n : Int) (k : Nat) (w : World) (ha : a = n) (hb : b = k) (h1 : 0 ≤ n) (h2 : n ≤ 9223372036854775807) (hk : k ≤ 10) :
 Calls Tryz.prog 99 #[.int .i64 a, .int .i64 b] w fun e w' => e = .returned (.string (Bx.be n k)) ∧ Below w.heap.size w w' := by
 subst ha; subst hb; exact digits_any a k w h1 h2 hk
set_option maxHeartbeats 1000000 in
theorem framed_any (s : ByteArray) (w : World) (hs : s.size ≤ 100000) :
 Calls Tryz.prog 102 #[.string s] w fun e w' => e = .returned (.string (Bx.frame s)) ∧ Below w.heap.size w w' := by
 have B := sumR_bd s
 have q1 : ¬ 9223372036854775807 < 2 + s.size := by omega
 have q2 : ¬ 9223372036854775807 < 2 + s.size + 4 := by omega
 have HB : Hid (Bx.be (s.size : Int) 2 ++ s ++ Bx.be (Crc.sumR s) 4 = Bx.frame s) := rfl
 go_enter Tryz.func102, Tryz.ntmps102
 go_wp2_with fail
 refine (digits_at _ _ (s.size : Int) 2 _ rfl rfl (by omega) (by omega) (by decide)).mono ?_
 rintro e w1 ⟨rfl, b1⟩
 go_wp2_with fail
 refine (fsum_any s _ (by unfold maxLen; omega)).mono ?_
 rintro e w2 ⟨rfl, rfl⟩
 go_wp2_with fail
 refine (digits_at _ _ (Crc.sumR s) 4 _ rfl rfl (by omega) (by omega) (by decide)).mono ?_
 rintro e w3 ⟨rfl, b3⟩
 go_wp2_with fail
 go_ret
 exact ⟨ret_str HB.out, b1.trans (b3.mono b1.size)⟩
end Go.Proofs.YtdajolpoiffimaaGreatDoor

namespace Go.Proofs.YtdajolpoiffimaaGreatDoor
open Go.RowKit

theorem info_ps : (Tryz.prog.info? 154).map (fun i => (i.zero, i.size, i.bytes)) = some (some (.agg #[.int .i64 0, .int .i64 0, .int .i64 0, .int .i64 0, .int .i64 0, .int .i64 0, .int .i64 0, .string ByteArray.empty]), 8, 72) := by kernel_rfl
theorem info_en : (Tryz.prog.info? 95).map (fun i => (i.zero, i.size, i.bytes)) = some (some (.agg #[.int .i64 0, .string ByteArray.empty]), 2, 24) := by kernel_rfl
abbrev psV (x : Px.Sl) : Value := .agg #[.int .i64 x.num, .int .i64 x.line, .int .i64 x.minute, .int .i64 x.att, .int .i64 x.frm, .int .i64 x.step, .int .i64 x.ans, .string x.heard]
abbrev psO (x : Px.Sl) : Obj := .cells #[.int .i64 x.num, .int .i64 x.line, .int .i64 x.minute, .int .i64 x.att, .int .i64 x.frm, .int .i64 x.step, .int .i64 x.ans, .string x.heard] 154
/-- A slot lies in a block of its own. -/
structure PsIn (W : World) (q : Nat) (x : Px.Sl) : Prop where
 c0 : W.cell? ⟨q, 0, none⟩ = some (.int .i64 x.num)
 c1 : W.cell? ⟨q, 1, none⟩ = some (.int .i64 x.line)
 c2 : W.cell? ⟨q, 2, none⟩ = some (.int .i64 x.minute)
 c3 : W.cell? ⟨q, 3, none⟩ = some (.int .i64 x.att)
 c4 : W.cell? ⟨q, 4, none⟩ = some (.int .i64 x.frm)
 c5 : W.cell? ⟨q, 5, none⟩ = some (.int .i64 x.step)
 c6 : W.cell? ⟨q, 6, none⟩ = some (.int .i64 x.ans)
 c7 : W.cell? ⟨q, 7, none⟩ = some (.string x.heard)
theorem PsIn.new (w : World) (x : Px.Sl) : PsIn (w.alloc (psO x)) w.heap.size x := ⟨by simp [go_sem], by simp [go_sem], by simp [go_sem], by simp [go_sem], by simp [go_sem], by simp [go_sem], by simp [go_sem], by simp [go_sem]⟩
theorem PsIn.later {W W' : World} {q : Nat} {x : Px.Sl} (h : PsIn W q x) (hb : Below W.heap.size W W') : PsIn W' q x := ⟨cell_later hb h.c0, cell_later hb h.c1, cell_later hb h.c2, cell_later hb h.c3, cell_later hb h.c4, cell_later hb h.c5, cell_later hb h.c6, cell_later hb h.c7⟩
theorem PsIn.below {W W' : World} {q n : Nat} {x : Px.Sl} (h : PsIn W q x) (hq : q < n) (hb : Below n W W') : PsIn W' q x := by
 have c : ∀ j u, W.cell? ⟨q, j, none⟩ = some u → W'.cell? ⟨q, j, none⟩ = some u := fun j u h => (hb.cell (p := ⟨q, j, none⟩) hq).trans h
 exact ⟨c _ _ h.c0, c _ _ h.c1, c _ _ h.c2, c _ _ h.c3, c _ _ h.c4, c _ _ h.c5, c _ _ h.c6, c _ _ h.c7⟩
/-- A slot's eight cells. -/
theorem ps_cells {w : World} {L : List Px.Sl} {b off : Nat} (c : ∀ j (h : j < (L.flatMap psC).length), w.cell? ⟨b, off + j, none⟩ = some (L.flatMap psC)[j]) (i : Nat) (hi : i < L.length) :
 w.cell? ⟨b, off + i * 8, none⟩ = some (.int .i64 L[i].num) ∧ w.cell? ⟨b, off + i * 8 + 1, none⟩ = some (.int .i64 L[i].line) ∧ w.cell? ⟨b, off + i * 8 + 2, none⟩ = some (.int .i64 L[i].minute) ∧ w.cell? ⟨b, off + i * 8 + 3, none⟩ = some (.int .i64 L[i].att) ∧ w.cell? ⟨b, off + i * 8 + 4, none⟩ = some (.int .i64 L[i].frm) ∧ w.cell? ⟨b, off + i * 8 + 5, none⟩ = some (.int .i64 L[i].step) ∧ w.cell? ⟨b, off + i * 8 + 6, none⟩ = some (.int .i64 L[i].ans) ∧ w.cell? ⟨b, off + i * 8 + 7, none⟩ = some (.string L[i].heard) :=
 ⟨RowAt.cell psC_len c i hi 0 (by decide), RowAt.cell psC_len c i hi 1 (by decide), RowAt.cell psC_len c i hi 2 (by decide), RowAt.cell psC_len c i hi 3 (by decide), RowAt.cell psC_len c i hi 4 (by decide), RowAt.cell psC_len c i hi 5 (by decide), RowAt.cell psC_len c i hi 6 (by decide), RowAt.cell psC_len c i hi 7 (by decide)⟩
theorem psC_new (w : World) (x : Px.Sl) (t : TypeId) : ∀ j u, (psC x)[j]? = some u → (w.alloc (.cells #[.int .i64 x.num, .int .i64 x.line, .int .i64 x.minute, .int .i64 x.att, .int .i64 x.frm, .int .i64 x.step, .int .i64 x.ans, .string x.heard] t)).cell? ((⟨w.heap.size, 0, none⟩ : Addr).add j) = some u := by
 intro j u hj
 match j, hj with
 | 0, hj => simp [psC] at hj; subst hj; simp [Addr.add, go_sem]
 | 1, hj => simp [psC] at hj; subst hj; simp [Addr.add, go_sem]
 | 2, hj => simp [psC] at hj; subst hj; simp [Addr.add, go_sem]
 | 3, hj => simp [psC] at hj; subst hj; simp [Addr.add, go_sem]
 | 4, hj => simp [psC] at hj; subst hj; simp [Addr.add, go_sem]
 | 5, hj => simp [psC] at hj; subst hj; simp [Addr.add, go_sem]
 | 6, hj => simp [psC] at hj; subst hj; simp [Addr.add, go_sem]
 | 7, hj => simp [psC] at hj; subst hj; simp [Addr.add, go_sem]
theorem own_mono' {w : World} {base base' : Nat} {e : TypeId} {size : Nat} {v : Value} {n : Nat} {xs : List Value} (h : w.ownsRow base e size v n xs) (hb : base' ≤ base) : w.ownsRow base' e size v n xs := by
 refine ⟨h.1, ?_⟩
 rcases h.2 with h2 | ⟨g, cap, cur, hv, hbase, h3⟩
 ·exact Or.inl h2
 ·exact Or.inr ⟨g, cap, cur, hv, Nat.le_trans hb hbase, h3⟩
theorem own_empty (w : World) (e : TypeId) (size : Nat) : (w.alloc (.cells #[] e)).ownsRow w.heap.size e size (.slice (some ⟨w.heap.size, 0, none⟩) 0 0) 0 [] :=
 ⟨by simp, Or.inr ⟨w.heap.size, 0, #[], rfl, Nat.le_refl _, (MapKept.heap_alloc w _).1, Nat.le_refl _, Nat.zero_le _, by simp, by simp⟩⟩

set_option maxHeartbeats 1000000 in
theorem pwithout_any (l : List Px.Sl) (n : Int) (sl : Value) (w : World) (hl : l.length ≤ 10000) (hS : RowAt w sl l.length (l.flatMap psC)) :
 Calls Tryz.prog 161 #[sl, .int .i64 n] w fun e w' => (∃ v, e = .returned v ∧ w'.ownsRow w.heap.size 154 8 v (Px.skip l n).length ((Px.skip l n).flatMap psC)) ∧ Below w.heap.size w w' := by
 obtain ⟨i0, hi, hz0, hz1, hz2⟩ := info_parts info_ps
 obtain ⟨ad, cap, rfl, hcap⟩ := hS.form
 have HR : Hid (RowAt w (.slice ad l.length cap) l.length (l.flatMap psC)) := hS
 clear hS
 go_enter Tryz.func161, Tryz.ntmps161
 go_wp2_with fail
 have HO := own_empty w 154 8
 have hb0 := below_alloc w (.cells #[] 154)
 obtain ⟨W, hW⟩ : ∃ W, W = w := ⟨w, rfl⟩
 have HW : Hid (W = w) := hW
 have HB : Hid (Below W.heap.size W (w.alloc (.cells #[] 154))) := by rw [hW]; exact hb0
 have HO' : Hid ((w.alloc (.cells #[] 154)).ownsRow W.heap.size 154 8 (.slice (some ⟨w.heap.size, 0, none⟩) 0 0) 0 []) := by rw [hW]; exact HO
 have HR' : Hid (RowAt W (.slice ad l.length cap) l.length (l.flatMap psC)) := by rw [hW]; exact HR.out
 clear hW HO hb0 HR
 go_loopw [5, 6] (fun v i wr => ∃ k : Nat, k ≤ l.length ∧ i = .int .i64 k ∧ wr.ownsRow W.heap.size 154 8 v (Px.skip (l.take k) n).length ((Px.skip (l.take k) n).flatMap psC) ∧ Below W.heap.size W wr) (fun _ i _ => l.length - (intOf i).toNat)
 case atStart => exact ⟨0, Nat.zero_le _, rfl, HO'.out, HB.out⟩
 case round =>
  obtain ⟨k, hk, rfl, hown, hbr⟩ := hrel
  have hsz := hbr.size
  by_cases hlt : k < l.length
  ·obtain ⟨b, off, cap', hv, _, hc⟩ := (HR'.out.later hbr).some' (by omega)
   cases hv
   obtain ⟨d0, d1, d2, d3, d4, d5, d6, d7⟩ := ps_cells hc k hlt
   clear hc
   have b1 : (0 : Int) ≤ (k : Int) := by omega
   have b2 : (k : Int) < (l.length : Int) := by omega
   have hn : (Px.skip (l.take k) n).length ≤ k := by
    have := List.length_filter_le (fun x : Px.Sl => x.num != n) (l.take k)
    unfold Px.skip; simp at this ⊢; omega
   cases he : (l[k].num != n)
   ·have HF : Hid (Px.skip (l.take (k + 1)) n = Px.skip (l.take k) n) := Px.skip_no hlt he
    generalize l[k] = x at *
    clear d1 d2 d3 d4 d5 d6 d7
    go_wp2_with fail
    go_roundw
    case rel => exact ⟨k + 1, by omega, by go_num, by rw [HF.out]; exact hown, hbr⟩
    case measure => simp [intOf]; omega
   ·have HF : Hid (Px.skip (l.take (k + 1)) n = Px.skip (l.take k) n ++ [l[k]]) := Px.skip_yes hlt he
    generalize l[k] = x at *
    generalize Px.skip (l.take k) n = L at *
    go_wp2_with (at_builtin; refine wpList_append_lies _ rfl (.tmp 21) (.tmp 26) 62 rfl W.heap.size 154 i0 (.agg #[.int .i64 0, .int .i64 0, .int .i64 0, .int .i64 0, .int .i64 0, .int .i64 0, .int .i64 0, .string ByteArray.empty]) 8 72 Tryz.underlying62 hi hz0 hz1 hz2 rfl (by decide) _ _ _ rfl (hown.alloc _) ⟨wr.heap.size, 0, none⟩ 1 1 (psC x) rfl rfl (psC_new _ _ _) (psC_one x) (by decide) ?c3 ?c4 ?c5 _ rfl ?_)
    case c3 => unfold maxLen; omega
    case c4 => omega
    case c5 => simp; omega
    ·intro g cap1 w1 hown' hgrow _ hlt'
     have B1 : Below W.heap.size W w1 := (hbr.alloc hsz _).grown hgrow (by simp; omega) (fun k' e => (hown.lt k' e).1)
     have hown2 : w1.ownsRow W.heap.size 154 8 (.slice (some ⟨g, 0, none⟩) (L.length + 1) cap1) (L ++ [x]).length ((L ++ [x]).flatMap psC) := by simpa using hown'
     clear hown' hgrow hown hbr d0 d1 d2 d3 d4 d5 d6 d7
     go_wp2_with fail
     go_roundw
     case rel => exact ⟨k + 1, by omega, by go_num, by rw [HF.out]; exact hown2, B1⟩
     case measure => simp [intOf]; omega
  ·obtain rfl : k = l.length := by omega
   rw [List.take_length] at hown
   go_wp2_with fail
   go_ret
   have := HW.out
   subst this
   exact ⟨⟨_, rfl, hown⟩, hbr⟩

set_option maxHeartbeats 2000000 in
theorem preplaced_any (l : List Px.Sl) (x : Px.Sl) (sl : Value) (w : World) (hl : l.length ≤ 10000) (hS : RowAt w sl l.length (l.flatMap psC)) :
 Calls Tryz.prog 125 #[sl, psV x] w fun e w' => (∃ v, e = .returned v ∧ w'.ownsRow w.heap.size 154 8 v (Px.repl l x).length ((Px.repl l x).flatMap psC)) ∧ Below w.heap.size w w' := by
 obtain ⟨i0, hi, hz0, hz1, hz2⟩ := info_parts info_ps
 obtain ⟨ad, cap, rfl, hcap⟩ := hS.form
 have HR : Hid (RowAt w (.slice ad l.length cap) l.length (l.flatMap psC)) := hS
 clear hS
 have hb00 := below_alloc w (psO x)
 have hX0 := PsIn.new w x
 have hq0 : w.heap.size < (w.alloc (psO x)).heap.size := by simp
 have hs0 : w.heap.size ≤ (w.alloc (psO x)).heap.size := by simp
 have HO0 := own_empty (w.alloc (psO x)) 154 8
 have hb1 := below_alloc (w.alloc (psO x)) (.cells #[] 154)
 go_enter Tryz.func125, Tryz.ntmps125
 go_upto_region 1 with fail
 generalize w.alloc (psO x) = W at *
 have HB : Hid (Below w.heap.size w W) := hb00
 have HB1 : Hid (Below W.heap.size W (W.alloc (.cells #[] 154))) := hb1
 have HO' : Hid ((W.alloc (.cells #[] 154)).ownsRow W.heap.size 154 8 (.slice (some ⟨W.heap.size, 0, none⟩) 0 0) 0 []) := HO0
 have HR' : Hid (RowAt W (.slice ad l.length cap) l.length (l.flatMap psC)) := HR.out.later hb00
 have HX : Hid (PsIn W w.heap.size x) := hX0
 clear hX0 hb00 hb1 HO0 HR
 go_wp2_with fail
 go_loopw [5, 6] (fun v i wr => ∃ k : Nat, k ≤ l.length ∧ i = .int .i64 k ∧ wr.ownsRow W.heap.size 154 8 v (Px.repl (l.take k) x).length ((Px.repl (l.take k) x).flatMap psC) ∧ Below W.heap.size W wr) (fun _ i _ => l.length - (intOf i).toNat)
 case atStart => exact ⟨0, Nat.zero_le _, rfl, HO'.out, HB1.out⟩
 case round =>
  obtain ⟨k, hk, rfl, hown, hbr⟩ := hrel
  have hsz := hbr.size
  by_cases hlt : k < l.length
  ·obtain ⟨b, off, cap', hv, _, hc⟩ := (HR'.out.later hbr).some' (by omega)
   cases hv
   have b1 : (0 : Int) ≤ (k : Int) := by omega
   have b2 : (k : Int) < (l.length : Int) := by omega
   have hn : (Px.repl (l.take k) x).length ≤ k := by simp [Px.repl]; omega
   obtain ⟨c0, c1, c2, c3, c4, c5, c6, c7⟩ := ps_cells hc k hlt
   obtain ⟨d0, d1, d2, d3, d4, d5, d6, d7⟩ := HX.out.below hq0 hbr
   clear hc
   cases he : (l[k].num == x.num)
   ·have HF : Hid (Px.repl (l.take (k + 1)) x = Px.repl (l.take k) x ++ [l[k]]) := Px.repl_no hlt he
    generalize l[k] = y at *
    generalize Px.repl (l.take k) x = L at *
    go_wp2_with fail
    go_quiet (fail)
    clear d0 d1 d2 d3 d4 d5 d6 d7
    have d0 := c0; have d1 := c1; have d2 := c2; have d3 := c3; have d4 := c4; have d5 := c5; have d6 := c6; have d7 := c7
    clear c0 c1 c2 c3 c4 c5 c6 c7
    go_wp2_with (at_builtin; refine wpList_append_lies _ rfl (.tmp 26) (.tmp 31) 62 rfl W.heap.size 154 i0 (.agg #[.int .i64 0, .int .i64 0, .int .i64 0, .int .i64 0, .int .i64 0, .int .i64 0, .int .i64 0, .string ByteArray.empty]) 8 72 Tryz.underlying62 hi hz0 hz1 hz2 rfl (by decide) _ _ _ rfl (hown.alloc _) ⟨wr.heap.size, 0, none⟩ 1 1 (psC y) rfl rfl (psC_new _ _ _) (psC_one y) (by decide) ?c3 ?c4 ?c5 _ rfl ?_)
    case c3 => unfold maxLen; omega
    case c4 => omega
    case c5 => simp; omega
    ·intro g cap1 w1 hown' hgrow _ hlt'
     have B1 : Below W.heap.size W w1 := ((below_drewN hbr _).alloc hsz _).grown hgrow (by simp; omega) (fun k' e => (hown.lt k' e).1)
     have hown2 : w1.ownsRow W.heap.size 154 8 (.slice (some ⟨g, 0, none⟩) (L.length + 1) cap1) (L ++ [y]).length ((L ++ [y]).flatMap psC) := by simpa using hown'
     clear hown' hgrow hown hbr d0 d1 d2 d3 d4 d5 d6 d7
     go_wp2_with fail
     go_roundw
     case rel => exact ⟨k + 1, by omega, by go_num, by rw [HF.out]; exact hown2, B1⟩
     case measure => simp [intOf]; omega
   ·have HF : Hid (Px.repl (l.take (k + 1)) x = Px.repl (l.take k) x ++ [x]) := Px.repl_yes hlt he
    generalize l[k] = y at *
    generalize Px.repl (l.take k) x = L at *
    go_wp2_with fail
    go_quiet (fail)
    clear c0 c1 c2 c3 c4 c5 c6 c7
    go_wp2_with (at_builtin; refine wpList_append_lies _ rfl (.tmp 22) (.tmp 24) 62 rfl W.heap.size 154 i0 (.agg #[.int .i64 0, .int .i64 0, .int .i64 0, .int .i64 0, .int .i64 0, .int .i64 0, .int .i64 0, .string ByteArray.empty]) 8 72 Tryz.underlying62 hi hz0 hz1 hz2 rfl (by decide) _ _ _ rfl (hown.alloc _) ⟨wr.heap.size, 0, none⟩ 1 1 (psC x) rfl rfl (psC_new _ _ _) (psC_one x) (by decide) ?c3 ?c4 ?c5 _ rfl ?_)
    case c3 => unfold maxLen; omega
    case c4 => omega
    case c5 => simp; omega
    ·intro g cap1 w1 hown' hgrow _ hlt'
     have B1 : Below W.heap.size W w1 := ((below_drewN hbr _).alloc hsz _).grown hgrow (by simp; omega) (fun k' e => (hown.lt k' e).1)
     have hown2 : w1.ownsRow W.heap.size 154 8 (.slice (some ⟨g, 0, none⟩) (L.length + 1) cap1) (L ++ [x]).length ((L ++ [x]).flatMap psC) := by simpa using hown'
     clear hown' hgrow hown hbr d0 d1 d2 d3 d4 d5 d6 d7
     go_wp2_with fail
     go_roundw
     case rel => exact ⟨k + 1, by omega, by go_num, by rw [HF.out]; exact hown2, B1⟩
     case measure => simp [intOf]; omega
  ·obtain rfl : k = l.length := by omega
   rw [List.take_length] at hown
   go_wp2_with fail
   go_ret
   exact ⟨⟨_, rfl, own_mono' hown hs0⟩, HB.out.trans (hbr.mono HB.out.size)⟩
end Go.Proofs.YtdajolpoiffimaaGreatDoor

namespace Go.Proofs.YtdajolpoiffimaaGreatDoor
open Go.RowKit

set_option maxHeartbeats 2000000 in
theorem pwithSlot_any (l : List Px.Sl) (x : Px.Sl) (sl : Value) (w : World) (hl : l.length ≤ 10000) (hS : RowAt w sl l.length (l.flatMap psC)) :
 Calls Tryz.prog 160 #[sl, psV x] w fun e w' => (∃ v, e = .returned v ∧ w'.ownsRow w.heap.size 154 8 v (l ++ [x]).length ((l ++ [x]).flatMap psC)) ∧ Below w.heap.size w w' := by
 obtain ⟨i0, hi, hz0, hz1, hz2⟩ := info_parts info_ps
 obtain ⟨ad, cap, rfl, hcap⟩ := hS.form
 have HR : Hid (RowAt w (.slice ad l.length cap) l.length (l.flatMap psC)) := hS
 clear hS
 have hb00 := below_alloc w (psO x)
 have hX0 := PsIn.new w x
 have hq0 : w.heap.size < (w.alloc (psO x)).heap.size := by simp
 have hs0 : w.heap.size ≤ (w.alloc (psO x)).heap.size := by simp
 have HO0 := own_empty (w.alloc (psO x)) 154 8
 have hb1 := below_alloc (w.alloc (psO x)) (.cells #[] 154)
 go_enter Tryz.func160, Tryz.ntmps160
 go_upto_region 1 with fail
 generalize w.alloc (psO x) = W at *
 have HB : Hid (Below w.heap.size w W) := hb00
 have HB1 : Hid (Below W.heap.size W (W.alloc (.cells #[] 154))) := hb1
 have HO' : Hid ((W.alloc (.cells #[] 154)).ownsRow W.heap.size 154 8 (.slice (some ⟨W.heap.size, 0, none⟩) 0 0) 0 []) := HO0
 have HR' : Hid (RowAt W (.slice ad l.length cap) l.length (l.flatMap psC)) := HR.out.later hb00
 have HX : Hid (PsIn W w.heap.size x) := hX0
 clear hX0 hb00 hb1 HO0 HR
 go_wp2_with fail
 go_loopw [5, 6] (fun v i wr => ∃ k : Nat, k ≤ l.length ∧ i = .int .i64 k ∧ wr.ownsRow W.heap.size 154 8 v (l.take k).length ((l.take k).flatMap psC) ∧ Below W.heap.size W wr) (fun _ i _ => l.length - (intOf i).toNat)
 case atStart => exact ⟨0, Nat.zero_le _, rfl, HO'.out, HB1.out⟩
 case round =>
  obtain ⟨k, hk, rfl, hown, hbr⟩ := hrel
  have hsz := hbr.size
  by_cases hlt : k < l.length
  ·obtain ⟨b, off, cap', hv, _, hc⟩ := (HR'.out.later hbr).some' (by omega)
   cases hv
   have b1 : (0 : Int) ≤ (k : Int) := by omega
   have b2 : (k : Int) < (l.length : Int) := by omega
   have hn : (l.take k).length ≤ k := by simp; omega
   have HF : Hid (l.take (k + 1) = l.take k ++ [l[k]]) := List.take_succ_eq_append_getElem hlt
   obtain ⟨d0, d1, d2, d3, d4, d5, d6, d7⟩ := ps_cells hc k hlt
   clear hc
   have hq : True := trivial
   ·generalize l[k] = y at *
    generalize l.take k = L at *
    go_wp2_with (at_builtin; refine wpList_append_lies _ rfl (.tmp 14) (.tmp 19) 62 rfl W.heap.size 154 i0 (.agg #[.int .i64 0, .int .i64 0, .int .i64 0, .int .i64 0, .int .i64 0, .int .i64 0, .int .i64 0, .string ByteArray.empty]) 8 72 Tryz.underlying62 hi hz0 hz1 hz2 rfl (by decide) _ _ _ rfl (hown.alloc _) ⟨wr.heap.size, 0, none⟩ 1 1 (psC y) rfl rfl (psC_new _ _ _) (psC_one y) (by decide) ?c3 ?c4 ?c5 _ rfl ?_)
    case c3 => unfold maxLen; omega
    case c4 => omega
    case c5 => simp; omega
    ·intro g cap1 w1 hown' hgrow _ hlt'
     have B1 : Below W.heap.size W w1 := (hbr.alloc hsz _).grown hgrow (by simp; omega) (fun k' e => (hown.lt k' e).1)
     have hown2 : w1.ownsRow W.heap.size 154 8 (.slice (some ⟨g, 0, none⟩) (L.length + 1) cap1) (L ++ [y]).length ((L ++ [y]).flatMap psC) := by simpa using hown'
     clear hown' hgrow hown hbr d0 d1 d2 d3 d4 d5 d6 d7
     go_wp2_with fail
     go_roundw
     case rel => exact ⟨k + 1, by omega, by go_num, by rw [HF.out]; exact hown2, B1⟩
     case measure => simp [intOf]; omega
  ·obtain rfl : k = l.length := by omega
   obtain ⟨d0, d1, d2, d3, d4, d5, d6, d7⟩ := HX.out.below hq0 hbr
   rw [List.take_length] at hown
   go_wp2_with (at_builtin; refine wpList_append_lies _ rfl (.tmp 21) (.tmp 23) 62 rfl W.heap.size 154 i0 (.agg #[.int .i64 0, .int .i64 0, .int .i64 0, .int .i64 0, .int .i64 0, .int .i64 0, .int .i64 0, .string ByteArray.empty]) 8 72 Tryz.underlying62 hi hz0 hz1 hz2 rfl (by decide) _ _ _ rfl (hown.alloc _) ⟨wr.heap.size, 0, none⟩ 1 1 (psC x) rfl rfl (psC_new _ _ _) (psC_one x) (by decide) ?c3 ?c4 ?c5 _ rfl ?_)
   case c3 => unfold maxLen; omega
   case c4 => omega
   case c5 => simp; omega
   ·intro g cap1 w1 hown' hgrow _ hlt'
    have B1 : Below W.heap.size W w1 := (hbr.alloc hsz _).grown hgrow (by simp; omega) (fun k' e => (hown.lt k' e).1)
    have hown2 : Hid (w1.ownsRow W.heap.size 154 8 (.slice (some ⟨g, 0, none⟩) (l.length + 1) cap1) (l ++ [x]).length ((l ++ [x]).flatMap psC)) := by unfold Hid; simpa using hown'
    clear hown' hgrow hown hbr d0 d1 d2 d3 d4 d5 d6 d7
    go_wp2_with fail
    go_ret
    exact ⟨⟨_, rfl, own_mono' hown2.out hs0⟩, HB.out.trans (B1.mono HB.out.size)⟩

theorem drop_yes {α : Type} {l : List α} {m k : Nat} (h : k < l.length) (hm : m ≤ k) : (l.take (k + 1)).drop m = (l.take k).drop m ++ [l[k]] := by
 rw [List.take_succ_eq_append_getElem h, List.drop_append_of_le_length (by simp; omega)]
theorem drop_no {α : Type} {l : List α} {m k : Nat} (hm : k < m) : (l.take (k + 1)).drop m = (l.take k).drop m := by
 rw [List.drop_eq_nil_of_le (by simp; omega), List.drop_eq_nil_of_le (by simp; omega)]
theorem enC_new' (w : World) (x : Bx.En) (t : TypeId) : ∀ j u, (enC x)[j]? = some u → (w.alloc (.cells #[.int .i64 x.num, .string x.how] t)).cell? ((⟨w.heap.size, 0, none⟩ : Addr).add j) = some u := by
 intro j u hj
 match j, hj with
 | 0, hj => simp [enC] at hj; subst hj; simp [Addr.add, go_sem]
 | 1, hj => simp [enC] at hj; subst hj; simp [Addr.add, go_sem]
theorem enC_one' (x : Bx.En) : ∀ u ∈ enC x, u.oneCell' = true := by
 intro u hu; simp [enC] at hu; rcases hu with rfl | rfl <;> rfl
set_option maxHeartbeats 2000000 in
theorem pwithEnd_any (l : List Bx.En) (x : Bx.En) (sl : Value) (w : World) (hl : l.length ≤ 10000) (hS : RowAt w sl l.length (l.flatMap enC)) :
 Calls Tryz.prog 159 #[sl, .agg #[.int .i64 x.num, .string x.how]] w fun e w' => (∃ v, e = .returned v ∧ w'.ownsRow w.heap.size 95 2 v (Bx.push l x).length ((Bx.push l x).flatMap enC)) ∧ Below w.heap.size w w' := by
 obtain ⟨i0, hi, hz0, hz1, hz2⟩ := info_parts info_en
 obtain ⟨ad, cap, rfl, hcap⟩ := hS.form
 have HR : Hid (RowAt w (.slice ad l.length cap) l.length (l.flatMap enC)) := hS
 clear hS
 have hb00 := below_alloc w (.cells #[.int .i64 x.num, .string x.how] 95)
 have hX0 : (w.alloc (.cells #[.int .i64 x.num, .string x.how] 95)).cell? ⟨w.heap.size, 0, none⟩ = some (.int .i64 x.num) := by simp [go_sem]
 have hX1 : (w.alloc (.cells #[.int .i64 x.num, .string x.how] 95)).cell? ⟨w.heap.size, 1, none⟩ = some (.string x.how) := by simp [go_sem]
 have hq0 : w.heap.size < (w.alloc (.cells #[.int .i64 x.num, .string x.how] 95)).heap.size := by simp
 have hs0 : w.heap.size ≤ (w.alloc (.cells #[.int .i64 x.num, .string x.how] 95)).heap.size := by simp
 have HO0 := own_empty (w.alloc (.cells #[.int .i64 x.num, .string x.how] 95)) 95 2
 have hb1 := below_alloc (w.alloc (.cells #[.int .i64 x.num, .string x.how] 95)) (.cells #[] 95)
 go_enter Tryz.func159, Tryz.ntmps159
 go_upto_region 1 with fail
 generalize w.alloc (.cells #[.int .i64 x.num, .string x.how] 95) = W at *
 have HB : Hid (Below w.heap.size w W) := hb00
 have HB1 : Hid (Below W.heap.size W (W.alloc (.cells #[] 95))) := hb1
 have HO' : Hid ((W.alloc (.cells #[] 95)).ownsRow W.heap.size 95 2 (.slice (some ⟨W.heap.size, 0, none⟩) 0 0) 0 []) := HO0
 have HR' : Hid (RowAt W (.slice ad l.length cap) l.length (l.flatMap enC)) := HR.out.later hb00
 have HX0 : Hid (W.cell? ⟨w.heap.size, 0, none⟩ = some (.int .i64 x.num)) := hX0
 have HX1 : Hid (W.cell? ⟨w.heap.size, 1, none⟩ = some (.string x.how)) := hX1
 clear hX0 hX1 hb00 hb1 HO0 HR
 go_wp2_with fail
 go_loopw [5, 6] (fun v i wr => ∃ k : Nat, k ≤ l.length ∧ i = .int .i64 k ∧ wr.ownsRow W.heap.size 95 2 v ((l.take k).drop (l.length - 5)).length (((l.take k).drop (l.length - 5)).flatMap enC) ∧ Below W.heap.size W wr) (fun _ i _ => l.length - (intOf i).toNat)
 case atStart => exact ⟨0, Nat.zero_le _, rfl, by simpa using HO'.out, HB1.out⟩
 case round =>
  obtain ⟨k, hk, rfl, hown, hbr⟩ := hrel
  have hsz := hbr.size
  by_cases hlt : k < l.length
  ·have b1 : (0 : Int) ≤ (k : Int) := by omega
   have b2 : (k : Int) < (l.length : Int) := by omega
   have hn : ((l.take k).drop (l.length - 5)).length ≤ k := by simp; omega
   by_cases he : (l.length : Int) - 6 < (k : Int)
   ·have HF : Hid ((l.take (k + 1)).drop (l.length - 5) = (l.take k).drop (l.length - 5) ++ [l[k]]) := drop_yes hlt (by omega)
    obtain ⟨b, off, cap', hv, _, hc⟩ := (HR'.out.later hbr).some' (by omega)
    cases hv
    have d0 : wr.cell? ⟨b, off + k * 2, none⟩ = some (.int .i64 l[k].num) := RowAt.cell enC_len hc k hlt 0 (by decide)
    have d1 : wr.cell? ⟨b, off + k * 2 + 1, none⟩ = some (.string l[k].how) := RowAt.cell enC_len hc k hlt 1 (by decide)
    clear hc
    generalize l[k] = y at *
    generalize (l.take k).drop (l.length - 5) = L at *
    go_wp2_with (at_builtin; refine wpList_append_lies _ rfl (.tmp 19) (.tmp 24) 63 rfl W.heap.size 95 i0 (.agg #[.int .i64 0, .string ByteArray.empty]) 2 24 Tryz.underlying63 hi hz0 hz1 hz2 rfl (by decide) _ _ _ rfl (hown.alloc _) ⟨wr.heap.size, 0, none⟩ 1 1 (enC y) rfl rfl (enC_new' _ _ _) (enC_one' y) (by decide) ?c3 ?c4 ?c5 _ rfl ?_)
    case c3 => unfold maxLen; omega
    case c4 => omega
    case c5 => simp; omega
    ·intro g cap1 w1 hown' hgrow _ hlt'
     have B1 : Below W.heap.size W w1 := (hbr.alloc hsz _).grown hgrow (by simp; omega) (fun k' e => (hown.lt k' e).1)
     have hown2 : w1.ownsRow W.heap.size 95 2 (.slice (some ⟨g, 0, none⟩) (L.length + 1) cap1) (L ++ [y]).length ((L ++ [y]).flatMap enC) := by simpa using hown'
     clear hown' hgrow hown hbr d0 d1
     go_wp2_with fail
     go_roundw
     case rel => exact ⟨k + 1, by omega, by go_num, by rw [HF.out]; exact hown2, B1⟩
     case measure => simp [intOf]; omega
   ·have HF : Hid ((l.take (k + 1)).drop (l.length - 5) = (l.take k).drop (l.length - 5)) := drop_no (by omega)
    go_wp2_with fail
    go_roundw
    case rel => exact ⟨k + 1, by omega, by go_num, by rw [HF.out]; exact hown, hbr⟩
    case measure => simp [intOf]; omega
  ·obtain rfl : k = l.length := by omega
   have d0 : wr.cell? ⟨w.heap.size, 0, none⟩ = some (.int .i64 x.num) := (hbr.cell (p := ⟨w.heap.size, 0, none⟩) hq0).trans HX0.out
   have d1 : wr.cell? ⟨w.heap.size, 1, none⟩ = some (.string x.how) := (hbr.cell (p := ⟨w.heap.size, 1, none⟩) hq0).trans HX1.out
   rw [List.take_length] at hown
   have HL : Hid (Bx.push l x = l.drop (l.length - 5) ++ [x]) := rfl
   have hn : (l.drop (l.length - 5)).length ≤ 10000 := by simp; omega
   generalize l.drop (l.length - 5) = L at *
   go_wp2_with (at_builtin; refine wpList_append_lies _ rfl (.tmp 26) (.tmp 28) 63 rfl W.heap.size 95 i0 (.agg #[.int .i64 0, .string ByteArray.empty]) 2 24 Tryz.underlying63 hi hz0 hz1 hz2 rfl (by decide) _ _ _ rfl (hown.alloc _) ⟨wr.heap.size, 0, none⟩ 1 1 (enC x) rfl rfl (enC_new' _ _ _) (enC_one' x) (by decide) ?c3 ?c4 ?c5 _ rfl ?_)
   case c3 => unfold maxLen; omega
   case c4 => omega
   case c5 => simp; omega
   ·intro g cap1 w1 hown' hgrow _ hlt'
    have B1 : Below W.heap.size W w1 := (hbr.alloc hsz _).grown hgrow (by simp; omega) (fun k' e => (hown.lt k' e).1)
    have hown2 : Hid (w1.ownsRow W.heap.size 95 2 (.slice (some ⟨g, 0, none⟩) (L.length + 1) cap1) (Bx.push l x).length ((Bx.push l x).flatMap enC)) := by unfold Hid; rw [HL.out]; simpa using hown'
    clear hown' hgrow hown hbr d0 d1
    go_wp2_with fail
    go_ret
    exact ⟨⟨_, rfl, own_mono' hown2.out hs0⟩, HB.out.trans (B1.mono HB.out.size)⟩
end Go.Proofs.YtdajolpoiffimaaGreatDoor

namespace Go.Proofs.YtdajolpoiffimaaGreatDoor
open Go.RowKit

set_option maxHeartbeats 1000000 in
theorem partHolds_any (A B S v : Int) (w : World) (v1 : 0 ≤ v) (v2 : v ≤ 60) (a1 : 0 ≤ A) (a2 : A ≤ 99) (s1 : 1 ≤ S) (s2 : S ≤ 99) :
 Calls Tryz.prog 211 #[.agg #[.int .i64 A, .int .i64 B, .int .i64 S], .int .i64 v] w fun e w' => e = .returned (.bool (Txt.inB A B S v)) ∧ Below w.heap.size w w' := by
 by_cases q1 : A ≤ v
 rotate_left
 ·have e : Hid (Txt.inB A B S v = false) := Txt.inB_no (by omega)
  go_enter Tryz.func211, Tryz.ntmps211
  go_wp2_with fail
  go_ret
  exact ⟨ret_bool' e.out.symm, below_alloc w _⟩
 by_cases q2 : v ≤ B
 rotate_left
 ·have e : Hid (Txt.inB A B S v = false) := Txt.inB_no (by omega)
  go_enter Tryz.func211, Tryz.ntmps211
  go_wp2_with fail
  go_ret
  exact ⟨ret_bool' e.out.symm, below_alloc w _⟩
 have e : Hid (((v - A) % S == 0) = Txt.inB A B S v) := by
  unfold Hid
  cases q3 : ((v - A) % S == 0)
  ·have q4 : ¬ (v - A) % S = 0 := by simpa using q3
   exact (Txt.inB_no (Or.inr (Or.inr (Or.inr q4)))).symm
  ·have q4 : (v - A) % S = 0 := by simpa using q3
   exact (Txt.inB_yes q1 q2 (by omega) q4).symm
 have e' : Hid (((v - A).tmod S == 0) = Txt.inB A B S v) := by unfold Hid; rw [Int.tmod_eq_emod_of_nonneg (by omega)]; exact e.out
 go_enter Tryz.func211, Tryz.ntmps211
 go_wp2_with fail
 go_ret
 exact ⟨by first | exact ret_bool' e.out | exact ret_bool' e'.out, below_alloc w _⟩
end Go.Proofs.YtdajolpoiffimaaGreatDoor

namespace Go.Proofs.YtdajolpoiffimaaGreatDoor
open Go.RowKit
open Txt (NoSep)

set_option maxHeartbeats 400000 in
theorem isDigit_any (b : Int) (w : World) :
 Calls Tryz.prog 224 #[.int .u8 b] w fun e w' => e = .returned (.bool (Txt.dg b)) ∧ w' = w := by
 by_cases h1 : 48 ≤ b
 ·by_cases h2 : b ≤ 57
  ·have e : Hid (Txt.dg b = true) := Txt.dg_yes h1 h2
   go_enter Tryz.func224, Tryz.ntmps224
   go_wp2_with fail
   go_ret
   exact ⟨ret_bool' e.out.symm, rfl⟩
  ·have e : Hid (Txt.dg b = false) := Txt.dg_no (by omega)
   go_enter Tryz.func224, Tryz.ntmps224
   go_wp2_with fail
   go_ret
   exact ⟨ret_bool' e.out.symm, rfl⟩
 ·have e : Hid (Txt.dg b = false) := Txt.dg_no (by omega)
  go_enter Tryz.func224, Tryz.ntmps224
  go_wp2_with fail
  go_ret
  exact ⟨ret_bool' e.out.symm, rfl⟩

set_option maxHeartbeats 400000 in
theorem isDigits_any (s : ByteArray) (w : World) (hs : s.size ≤ 300) :
 Calls Tryz.prog 222 #[.string s] w fun e w' => e = .returned (.bool (Txt.digs s)) ∧ w' = w := by
 go_enter Tryz.func222, Tryz.ntmps222
 go_wp2_with fail
 go_loop [3] (fun i => ∃ k : Nat, k ≤ s.size ∧ i = .int .i64 k ∧ ∀ j (hj : j < s.size), j < k → Txt.dg (s[j].toNat) = true) (fun i => s.size - (intOf i).toNat)
 case atStart => exact ⟨0, Nat.zero_le _, rfl, fun j _ h => by omega⟩
 case round =>
  obtain ⟨k, hk, rfl, hall⟩ := hrel
  have HA : Hid (∀ j (hj : j < s.size), j < k → Txt.dg (s[j].toNat) = true) := hall
  clear hall
  by_cases hlt : k < s.size
  ·cases hd : Txt.dg (s[k].toNat)
   ·have e : Hid (Txt.digs s = false) := Txt.digs_no hlt hd
    go_wp2_with (go_at_call 224; refine (isDigit_any _ _).mono ?_; rintro e w' ⟨rfl, rfl⟩)
    go_ret
    exact ⟨ret_bool' e.out.symm, rfl⟩
   ·have HD : Hid (Txt.dg (s[k].toNat) = true) := hd
    go_wp2_with (go_at_call 224; refine (isDigit_any _ _).mono ?_; rintro e w' ⟨rfl, rfl⟩)
    go_round
    case rel =>
     refine ⟨k + 1, by omega, by go_num, fun j hj h => ?_⟩
     by_cases q : j = k
     ·subst q; exact HD.out
     ·exact HA.out j hj (by omega)
    case measure => simp [intOf]; omega
  ·have e : Hid (Txt.digs s = true) := Txt.digs_yes (fun j hj => HA.out j hj (by omega))
   go_wp2_with fail
   go_ret
   exact ⟨ret_bool' e.out.symm, rfl⟩
end Go.Proofs.YtdajolpoiffimaaGreatDoor

namespace Go.Proofs.YtdajolpoiffimaaGreatDoor
open Go.RowKit
open Txt (NoSep)

set_option maxHeartbeats 400000 in
theorem cut_any (s : ByteArray) (c : Int) (w : World) (hs : s.size ≤ 300) :
 Calls Tryz.prog 220 #[.string s, .int .u8 c] w fun e w' => e = .returned (.tuple #[.string (Txt.cut1 c s), .string (Txt.cut2 c s), .bool (Txt.cut3 c s)]) ∧ ∃ n, w' = w.drewN n := by
 go_enter Tryz.func220, Tryz.ntmps220
 go_wp2_with fail
 go_loop [7] (fun i => ∃ k : Nat, k ≤ s.size ∧ i = .int .i64 k ∧ NoSep c s 0 k) (fun i => s.size - (intOf i).toNat)
 case atStart => exact ⟨0, Nat.zero_le _, rfl, NoSep.nil _ _ _⟩
 case round =>
  obtain ⟨k, hk, rfl, hall⟩ := hrel
  have HA : Hid (NoSep c s 0 k) := hall
  clear hall
  by_cases hlt : k < s.size
  ·cases he : ((s[k].toNat : Int) == c)
   ·have HN : Hid (NoSep c s 0 (k + 1)) := HA.out.snoc hlt he
    go_wp2_with fail
    go_round
    case rel => exact ⟨k + 1, by omega, by go_num, HN.out⟩
    case measure => simp [intOf]; omega
   ·have e : Hid (Txt.cut1 c s = s.extract 0 k ∧ Txt.cut2 c s = s.extract (k + 1) s.size ∧ Txt.cut3 c s = true) := Txt.cut_yes hlt he HA.out
    have b1 : (0 : Int) ≤ (k : Int) := by omega
    have b2 : (k : Int) ≤ (s.size : Int) := by omega
    have b3 : (k : Int) + 1 ≤ (s.size : Int) := by omega
    go_wp2_with fail
    go_quiet (fail)
    go_wp2_with fail
    go_ret3
    exact ⟨ret_three e.out, _, rfl⟩
  ·have e : Hid (Txt.cut1 c s = s ∧ Txt.cut2 c s = ByteArray.empty ∧ Txt.cut3 c s = false) := Txt.cut_no ((show k = s.size by omega) ▸ HA.out)
   go_wp2_with fail
   go_ret3
   exact ⟨ret_three e.out, 0, rfl⟩

set_option maxHeartbeats 400000 in
theorem readNumber_any (s : ByteArray) (w : World) (hs : s.size ≤ 300) :
 Calls Tryz.prog 223 #[.string s] w fun e w' => e = .returned (.tuple #[.int .i64 (Txt.numV s), .bool (Txt.numB s)]) ∧ w' = w := by
 by_cases h1 : s.size < 1
 ·have e : Hid (0 = Txt.numV s ∧ false = Txt.numB s) := by have := Txt.num_no (Txt.val_no (s := s) (by omega)); exact ⟨this.1.symm, this.2.symm⟩
  go_enter Tryz.func223, Tryz.ntmps223
  go_wp2_with fail
  go_ret2
  exact ⟨ret_numok e.out, rfl⟩
 by_cases h2 : 2 < s.size
 ·have e : Hid (0 = Txt.numV s ∧ false = Txt.numB s) := by have := Txt.num_no (Txt.val_no (s := s) (by omega)); exact ⟨this.1.symm, this.2.symm⟩
  go_enter Tryz.func223, Tryz.ntmps223
  go_wp2_with fail
  go_ret2
  exact ⟨ret_numok e.out, rfl⟩
 cases hd : Txt.digs s
 ·have e : Hid (0 = Txt.numV s ∧ false = Txt.numB s) := by have := Txt.num_no (Txt.val_no (s := s) (Or.inr (Or.inr hd))); exact ⟨this.1.symm, this.2.symm⟩
  go_enter Tryz.func223, Tryz.ntmps223
  go_wp2_with (go_at_call 222; refine (isDigits_any _ _ hs).mono ?_; rintro e w' ⟨rfl, rfl⟩)
  go_ret2
  exact ⟨ret_numok e.out, rfl⟩
 ·have e : Hid (Txt.pv s s.size = Txt.numV s ∧ true = Txt.numB s) := by
   have v := Txt.val_yes (s := s) (by omega) (by omega) hd
   have := Txt.num_yes (Txt.val_nn (s := s) (by omega) (by omega) hd)
   exact ⟨by rw [this.1, v], this.2.symm⟩
  have HD : Hid (Txt.digs s = true) := hd
  go_enter Tryz.func223, Tryz.ntmps223
  go_wp2_with (go_at_call 222; refine (isDigits_any _ _ hs).mono ?_; rintro e w' ⟨rfl, rfl⟩)
  clear hd
  go_loop [4, 5] (fun n i => ∃ k : Nat, k ≤ s.size ∧ i = .int .i64 k ∧ n = .int .i64 (Txt.pv s k)) (fun _ i => s.size - (intOf i).toNat)
  case atStart => exact ⟨0, Nat.zero_le _, rfl, by rw [Txt.pv_0]⟩
  case round =>
   obtain ⟨k, hk, rfl, rfl⟩ := hrel
   have pb := Txt.pv_bd s k hk (by omega)
   by_cases hlt : k < s.size
   ·have d := Txt.dg_of (Txt.digs_at HD.out k hlt)
    have PS : Hid (Txt.pv s (k + 1) = Txt.pv s k * 10 + ((s[k].toNat : Int) - 48)) := Txt.pv_succ s k hlt
    obtain ⟨d1, d2⟩ := d
    go_wp2_with fail
    go_round
    case rel => exact ⟨k + 1, by omega, by go_num, by rw [PS.out]⟩
    case measure => simp [intOf]; omega
   ·obtain rfl : k = s.size := by omega
    go_wp2_with fail
    go_ret2
    exact ⟨ret_numok e.out, rfl⟩
end Go.Proofs.YtdajolpoiffimaaGreatDoor

namespace Go.Proofs.YtdajolpoiffimaaGreatDoor
open Go.RowKit

set_option maxHeartbeats 400000 in
theorem isWordByte_any (b : Int) (w : World) :
 Calls Tryz.prog 208 #[.int .u8 b] w fun e w' => e = .returned (.bool (Txt.wb b)) ∧ w' = w := by
 by_cases h1 : 97 ≤ b
 ·by_cases h2 : b ≤ 122
  ·have e : Hid (Txt.wb b = true) := Txt.wb_yes (by omega)
   go_enter Tryz.func208, Tryz.ntmps208
   go_wp2_with fail
   go_ret
   exact ⟨ret_bool' e.out.symm, rfl⟩
  ·have h3 : ¬ b ≤ 90 := by omega
   have h4 : 65 ≤ b := by omega
   have e : Hid (Txt.dg b = Txt.wb b) := Txt.wb_dg (by omega) (by omega)
   go_enter Tryz.func208, Tryz.ntmps208
   go_wp2_with (go_at_call 224; refine (isDigit_any _ _).mono ?_; rintro e w' ⟨rfl, rfl⟩)
   go_ret
   exact ⟨ret_bool' e.out, rfl⟩
 ·by_cases h3 : 65 ≤ b
  ·by_cases h4 : b ≤ 90
   ·have e : Hid (Txt.wb b = true) := Txt.wb_yes (by omega)
    go_enter Tryz.func208, Tryz.ntmps208
    go_wp2_with fail
    go_ret
    exact ⟨ret_bool' e.out.symm, rfl⟩
   ·have e : Hid (Txt.dg b = Txt.wb b) := Txt.wb_dg (by omega) (by omega)
    go_enter Tryz.func208, Tryz.ntmps208
    go_wp2_with (go_at_call 224; refine (isDigit_any _ _).mono ?_; rintro e w' ⟨rfl, rfl⟩)
    go_ret
    exact ⟨ret_bool' e.out, rfl⟩
  ·have e : Hid (Txt.dg b = Txt.wb b) := Txt.wb_dg (by omega) (by omega)
   go_enter Tryz.func208, Tryz.ntmps208
   go_wp2_with (go_at_call 224; refine (isDigit_any _ _).mono ?_; rintro e w' ⟨rfl, rfl⟩)
   go_ret
   exact ⟨ret_bool' e.out, rfl⟩

/-- A step, as a value; what readStep answers. -/
abbrev stepV (b : Bool) (x : ByteArray) : Value := .agg #[.bool b, .string x]
def StepR (s : ByteArray) (e : Ending) : Prop :=
 (Txt.stepB s = true ∧ e = .returned (.tuple #[stepV (sayB s) (s.extract 1 s.size), .bool true])) ∨ (Txt.stepB s = false ∧ e = .returned (.tuple #[stepV false ByteArray.empty, .bool false]))
theorem StepR.no {s : ByteArray} (h : Txt.stepB s = false) : StepR s (.returned (.tuple #[stepV false ByteArray.empty, .bool false])) := Or.inr ⟨h, rfl⟩
theorem StepR.yes {s : ByteArray} {b : Bool} (h : Txt.stepB s = true) (hb : b = sayB s) : StepR s (.returned (.tuple #[stepV b (s.extract 1 s.size), .bool true])) := by subst hb; exact Or.inl ⟨h, rfl⟩

set_option maxHeartbeats 1000000 in
theorem readStep_any (s : ByteArray) (w : World) (hs : s.size ≤ 300) :
 Calls Tryz.prog 190 #[.string s] w fun e w' => StepR s e ∧ Below w.heap.size w w' := by
 by_cases h2 : s.size < 2
 ·have e : Hid (Txt.stepB s = false) := Txt.stepB_no (fun h => by have := h.1; omega)
  go_enter Tryz.func190, Tryz.ntmps190
  go_wp2_with fail
  exact bodyPost_ret (v := .tuple #[stepV false ByteArray.empty, .bool false]) (by simp [results, Tryz.results190, go_sem]; rfl) rfl ⟨StepR.no e.out, by repeat (first | exact below_alloc _ _ | refine Below.setCell ?_ (by simp) _)⟩
 by_cases h9 : 9 < s.size
 ·have e : Hid (Txt.stepB s = false) := Txt.stepB_no (fun h => by have := h.2.1; omega)
  go_enter Tryz.func190, Tryz.ntmps190
  go_wp2_with fail
  exact bodyPost_ret (v := .tuple #[stepV false ByteArray.empty, .bool false]) (by simp [results, Tryz.results190, go_sem]; rfl) rfl ⟨StepR.no e.out, by repeat (first | exact below_alloc _ _ | refine Below.setCell ?_ (by simp) _)⟩
 have h0 : 0 < s.size := by omega
 by_cases hf : (s[0].toNat : Int) = 62 ∨ (s[0].toNat : Int) = 60
 rotate_left
 ·have e : Hid (Txt.stepB s = false) := Txt.stepB_no (fun ⟨_, _, _, h, _⟩ => hf h)
  have f1 : ((s[0].toNat : Int) != 62) = true := by simp; omega
  have f2 : ((s[0].toNat : Int) != 60) = true := by simp; omega
  clear hf
  go_enter Tryz.func190, Tryz.ntmps190
  go_wp2_with fail
  exact bodyPost_ret (v := .tuple #[stepV false ByteArray.empty, .bool false]) (by simp [results, Tryz.results190, go_sem]; rfl) rfl ⟨StepR.no e.out, by repeat (first | exact below_alloc _ _ | refine Below.setCell ?_ (by simp) _)⟩
 have HF : Hid ((s[0].toNat : Int) = 62 ∨ (s[0].toNat : Int) = 60) := hf
 have HS : Hid (((s[0].toNat : Int) == 62) = sayB s) := sayB_at h0 hf
 have HE : Hid (((s[0].toNat : Int) != 62) = false ∨ (((s[0].toNat : Int) != 62) = true ∧ ((s[0].toNat : Int) != 60) = false)) := by
  unfold Hid; rcases hf with h | h
  ·left; simp [h]
  ·right; constructor <;> simp [h]
 clear hf
 rcases HE.out with f1 | ⟨f1, f2⟩
 all_goals
  clear HE
  go_enter Tryz.func190, Tryz.ntmps190
  go_wp2_with fail
  go_loop [4] (fun i => ∃ k : Nat, 1 ≤ k ∧ k ≤ s.size ∧ i = .int .i64 k ∧ ∀ j (hj : j < s.size), 1 ≤ j → j < k → Txt.wb (s[j].toNat) = true) (fun i => s.size - (intOf i).toNat)
  case atStart => exact ⟨1, Nat.le_refl _, by omega, rfl, fun j _ h h' => by omega⟩
  case round =>
   obtain ⟨k, hk1, hk, rfl, hall⟩ := hrel
   have HA : Hid (∀ j (hj : j < s.size), 1 ≤ j → j < k → Txt.wb (s[j].toNat) = true) := hall
   clear hall
   by_cases hlt : k < s.size
   ·cases hd : Txt.wb (s[k].toNat)
    ·have e : Hid (Txt.stepB s = false) := step_bad hlt hk1 hd
     go_wp2_with (go_at_call 208; refine (isWordByte_any _ _).mono ?_; rintro e w' ⟨rfl, rfl⟩)
     exact bodyPost_ret (v := .tuple #[stepV false ByteArray.empty, .bool false]) (by simp [results, Tryz.results190, go_sem]; rfl) rfl ⟨StepR.no e.out, by repeat (first | exact below_alloc _ _ | refine Below.setCell ?_ (by simp) _)⟩
    ·have HD : Hid (Txt.wb (s[k].toNat) = true) := hd
     go_wp2_with (go_at_call 208; refine (isWordByte_any _ _).mono ?_; rintro e w' ⟨rfl, rfl⟩)
     go_round
     case rel =>
      refine ⟨k + 1, by omega, by omega, by go_num, fun j hj h1 h => ?_⟩
      by_cases q : j = k
      ·subst q; exact HD.out
      ·exact HA.out j hj h1 (by omega)
     case measure => simp [intOf]; omega
   ·have e : Hid (Txt.stepB s = true) := step_last (by omega) (by omega) (by omega) h0 HF.out HA.out
    go_wp2_with fail
    go_region
    go_wp2_with fail
    exact bodyPost_ret (v := .tuple #[stepV ((s[0].toNat : Int) == 62) (s.extract 1 s.size), .bool true]) (by simp [results, Tryz.results190, go_sem]) rfl ⟨StepR.yes e.out HS.out, (below_alloc _ _).drew⟩
end Go.Proofs.YtdajolpoiffimaaGreatDoor

namespace Go.Proofs.YtdajolpoiffimaaGreatDoor
open Go.RowKit

theorem first_ways {x : Int} (h : x = 120 ∨ x = 111) : (x != 120) = false ∨ ((x != 120) = true ∧ (x != 111) = false) := by
 rcases h with rfl | rfl
 ·left; rfl
 ·right; exact ⟨rfl, rfl⟩
theorem second_ways {x : Int} (h : x = 97 ∨ x = 108 ∨ x = 110) : (x != 97) = false ∨ ((x != 97) = true ∧ (x != 108) = false) ∨ ((x != 97) = true ∧ (x != 108) = true ∧ (x != 110) = false) := by
 rcases h with rfl | rfl | rfl
 ·left; rfl
 ·right; left; exact ⟨rfl, rfl⟩
 ·right; right; exact ⟨rfl, rfl, rfl⟩

/-- The options as a value; what readOptions answers. -/
abbrev optV (x : Bool) (c k : Int) : Value := .agg #[.bool x, .int .u8 c, .int .i64 k]
def obt (s : ByteArray) (i : Nat) : Int := ((s.data.toList[i]?).map (fun b => (b.toNat : Int))).getD 0
theorem obt_at {s : ByteArray} {i : Nat} (h : i < s.size) : (s[i].toNat : Int) = obt s i := by
 have hl : i < s.data.toList.length := by simpa using h
 unfold obt
 rw [List.getElem?_eq_getElem hl]; rfl
def OptR (s : ByteArray) (e : Ending) : Prop :=
 (Txt.optB s = true ∧ e = .returned (.tuple #[optV (obt s 0 == 120) (obt s 1) (obt s 2 - 48), .bool true])) ∨ (Txt.optB s = false ∧ e = .returned (.tuple #[optV false 0 0, .bool false]))
theorem OptR.no {s : ByteArray} (h : Txt.optB s = false) : OptR s (.returned (.tuple #[optV false 0 0, .bool false])) := Or.inr ⟨h, rfl⟩
theorem OptR.yes {s : ByteArray} {b : Bool} {c k : Int} (h : Txt.optB s = true) (h0 : b = (obt s 0 == 120)) (h1 : c = obt s 1) (h2 : k = obt s 2 - 48) : OptR s (.returned (.tuple #[optV b c k, .bool true])) := by subst h0 h1 h2; exact Or.inl ⟨h, rfl⟩

set_option maxHeartbeats 2000000 in
theorem readOptions_any (s : ByteArray) (w : World) (_hs : s.size ≤ 300) :
 Calls Tryz.prog 189 #[.string s] w fun e w' => OptR s e ∧ Below w.heap.size w w' := by
 by_cases z : s.size = 3
 rotate_left
 ·have e : Hid (Txt.optB s = false) := Txt.optB_no (fun h => z h.1)
  have z' : ((s.size : Int) != 3) = true := by simp; omega
  clear z
  go_enter Tryz.func189, Tryz.ntmps189
  go_wp2_with fail
  exact bodyPost_ret (v := .tuple #[optV false 0 0, .bool false]) (by simp [results, Tryz.results189, go_sem]) rfl ⟨OptR.no e.out, below_alloc _ _⟩
 have z' : ((s.size : Int) != 3) = false := by simp; omega
 have i0 : 0 < s.size := by omega
 have i1 : 1 < s.size := by omega
 have i2 : 2 < s.size := by omega
 have Z : Hid (s.size = 3) := z
 clear z
 by_cases hf : (s[0].toNat : Int) = 120 ∨ (s[0].toNat : Int) = 111
 rotate_left
 ·have e : Hid (Txt.optB s = false) := Txt.optB_no (fun ⟨_, h, _⟩ => hf h)
  have f1 : ((s[0].toNat : Int) != 120) = true := by simp; omega
  have f2 : ((s[0].toNat : Int) != 111) = true := by simp; omega
  clear hf
  go_enter Tryz.func189, Tryz.ntmps189
  go_wp2_with fail
  exact bodyPost_ret (v := .tuple #[optV false 0 0, .bool false]) (by simp [results, Tryz.results189, go_sem]) rfl ⟨OptR.no e.out, below_alloc _ _⟩
 have HF : Hid ((s[0].toNat : Int) = 120 ∨ (s[0].toNat : Int) = 111) := hf
 have W1 := first_ways hf
 clear hf
 by_cases hg : (s[1].toNat : Int) = 97 ∨ (s[1].toNat : Int) = 108 ∨ (s[1].toNat : Int) = 110
 rotate_left
 ·have e : Hid (Txt.optB s = false) := Txt.optB_no (fun ⟨_, _, h, _⟩ => hg h)
  have g1 : ((s[1].toNat : Int) != 97) = true := by simp; omega
  have g2 : ((s[1].toNat : Int) != 108) = true := by simp; omega
  have g3 : ((s[1].toNat : Int) != 110) = true := by simp; omega
  clear hg
  rcases W1 with f1 | ⟨f1, f2⟩
  all_goals
   go_enter Tryz.func189, Tryz.ntmps189
   go_wp2_with fail
   exact bodyPost_ret (v := .tuple #[optV false 0 0, .bool false]) (by simp [results, Tryz.results189, go_sem]) rfl ⟨OptR.no e.out, below_alloc _ _⟩
 have HG : Hid ((s[1].toNat : Int) = 97 ∨ (s[1].toNat : Int) = 108 ∨ (s[1].toNat : Int) = 110) := hg
 have W2 := second_ways hg
 clear hg
 have W3 : Hid ((s[2].toNat : Int) < 49 ∧ Txt.optB s = false ∨ (49 ≤ (s[2].toNat : Int) ∧ (s[2].toNat : Int) ≤ 53 ∧ Txt.optB s = true) ∨ (49 ≤ (s[2].toNat : Int) ∧ 53 < (s[2].toNat : Int) ∧ Txt.optB s = false)) := by
  unfold Hid
  by_cases a : (s[2].toNat : Int) < 49
  ·exact Or.inl ⟨a, Txt.optB_no (fun ⟨_, _, _, h, _⟩ => by omega)⟩
  ·by_cases b : (s[2].toNat : Int) ≤ 53
   ·exact Or.inr (Or.inl ⟨by omega, b, Txt.optB_yes ⟨Z.out, HF.out, HG.out, by omega, b⟩⟩)
   ·exact Or.inr (Or.inr ⟨by omega, by omega, Txt.optB_no (fun ⟨_, _, _, _, h⟩ => by omega)⟩)
 clear HF HG Z
 have E0 : Hid (((s[0].toNat : Int) == 120) = (obt s 0 == 120)) := by unfold Hid; rw [obt_at i0]
 have E1 : Hid ((s[1].toNat : Int) = obt s 1) := obt_at i1
 have E2 : Hid ((s[2].toNat : Int) - 48 = obt s 2 - 48) := by unfold Hid; rw [obt_at i2]
 rcases W3.out with ⟨a, e0⟩ | ⟨a, b, e0⟩ | ⟨a, b, e0⟩
 ·have e := (show Hid _ from e0)
  clear e0 W3
  rcases W1 with f1 | ⟨f1, f2⟩
  all_goals
   rcases W2 with g1 | ⟨g1, g2⟩ | ⟨g1, g2, g3⟩
   all_goals
    go_enter Tryz.func189, Tryz.ntmps189
    go_wp2_with fail
    exact bodyPost_ret (v := .tuple #[optV false 0 0, .bool false]) (by simp [results, Tryz.results189, go_sem]) rfl ⟨OptR.no e.out, below_alloc _ _⟩
 ·have e := (show Hid _ from e0)
  clear e0 W3
  rcases W1 with f1 | ⟨f1, f2⟩
  all_goals
   rcases W2 with g1 | ⟨g1, g2⟩ | ⟨g1, g2, g3⟩
   all_goals
    go_enter Tryz.func189, Tryz.ntmps189
    go_wp2_with fail
    go_region
    go_wp2_with fail
    exact bodyPost_ret (v := .tuple #[optV ((s[0].toNat : Int) == 120) (s[1].toNat : Int) ((s[2].toNat : Int) - 48), .bool true]) (by simp [results, Tryz.results189, go_sem]) rfl ⟨OptR.yes e.out E0.out E1.out E2.out, (below_alloc _ _).drew⟩
 ·have e := (show Hid _ from e0)
  clear e0 W3
  rcases W1 with f1 | ⟨f1, f2⟩
  all_goals
   rcases W2 with g1 | ⟨g1, g2⟩ | ⟨g1, g2, g3⟩
   all_goals
    go_enter Tryz.func189, Tryz.ntmps189
    go_wp2_with fail
    exact bodyPost_ret (v := .tuple #[optV false 0 0, .bool false]) (by simp [results, Tryz.results189, go_sem]) rfl ⟨OptR.no e.out, below_alloc _ _⟩
end Go.Proofs.YtdajolpoiffimaaGreatDoor

namespace Go.Proofs.YtdajolpoiffimaaGreatDoor
open Go.RowKit

/-- A part, as a value. -/
abbrev partV (a b t : Int) : Value := .agg #[.int .i64 a, .int .i64 b, .int .i64 t]
/-- What readValues reads of a text without its step. -/
def rvA (l : Int) (s : ByteArray) : Int := if Txt.star s then l else Txt.val (Txt.cut1 45 s)
def rvB (g : Int) (s : ByteArray) : Int := if Txt.star s then g else if Txt.cut3 45 s then Txt.val (Txt.cut2 45 s) else Txt.val (Txt.cut1 45 s)
def rvK (l g : Int) (s : ByteArray) : Bool := decide (l ≤ rvA l s ∧ rvA l s ≤ rvB g s ∧ rvB g s ≤ g)
/-- What readValues answers. -/
def PartR (k : Bool) (a b t : Int) (e : Ending) : Prop := (k = true ∧ e = .returned (.tuple #[partV a b t, .bool true])) ∨ (k = false ∧ e = .returned (.tuple #[partV 0 0 0, .bool false]))
theorem partR_yes {k : Bool} {a b t a' b' t' : Int} (h : k = true) (ha : a = a') (hb : b = b') (ht : t = t') : PartR k a b t (.returned (.tuple #[partV a' b' t', .bool true])) := by
 subst ha hb ht; exact Or.inl ⟨h, rfl⟩
theorem partR_no {k : Bool} {a b t : Int} (h : k = false) : PartR k a b t (.returned (.tuple #[partV 0 0 0, .bool false])) := Or.inr ⟨h, rfl⟩
theorem num_ok {s : ByteArray} (h : 0 ≤ Txt.val s) : Txt.numV s = Txt.val s ∧ Txt.numB s = true := Txt.num_yes h
theorem num_bad {s : ByteArray} (h : Txt.val s < 0) : Txt.numV s = 0 ∧ Txt.numB s = false := Txt.num_no (by have := Txt.val_bd s; omega)

set_option maxHeartbeats 1000000 in
theorem rv_star (s : ByteArray) (l g : Int) (w : World) (_hs : s.size ≤ 300) (l1 : 0 ≤ l) (l2 : l ≤ 1) (g1 : 6 ≤ g) (g2 : g ≤ 59) (h1 : Txt.star s = true) :
 Calls Tryz.prog 221 #[.string s, .int .i64 l, .int .i64 g] w fun e w' => PartR (rvK l g s) (rvA l s) (rvB g s) 1 e ∧ Below w.heap.size w w' := by
 have hst : (s.toList == [42]) = true := h1
 have e : Hid (rvK l g s = true ∧ rvA l s = l ∧ rvB g s = g) := by
  have a : rvA l s = l := by simp [rvA, h1]
  have b : rvB g s = g := by simp [rvB, h1]
  exact ⟨decide_eq_true (by rw [a, b]; omega), a, b⟩
 clear h1
 go_enter Tryz.func221, Tryz.ntmps221
 go_wp2_with fail
 exact bodyPost_ret (v := .tuple #[partV l g 1, .bool true]) (by simp [results, Tryz.results221, go_sem]) rfl ⟨partR_yes e.out.1 e.out.2.1 e.out.2.2 rfl, by repeat (first | exact Below.refl _ _ | refine below_drewN ?_ _ | refine Below.setCell ?_ (by simp) _ | refine Below.alloc ?_ (by simp) _)⟩

set_option maxHeartbeats 1000000 in
theorem rv_c (s : ByteArray) (l g : Int) (w : World) (hs : s.size ≤ 300) (l1 : 0 ≤ l) (l2 : l ≤ 1) (_g1 : 6 ≤ g) (_g2 : g ≤ 59) (h1 : Txt.star s = false) (h3 : Txt.cut3 45 s = false) :
 Calls Tryz.prog 221 #[.string s, .int .i64 l, .int .i64 g] w fun e w' => PartR (rvK l g s) (rvA l s) (rvB g s) 1 e ∧ Below w.heap.size w w' := by
 have hst : (s.toList == [42]) = false := h1
 have a : Hid (rvA l s = Txt.val (Txt.cut1 45 s)) := by unfold Hid; simp [rvA, h1]
 have b : Hid (rvB g s = Txt.val (Txt.cut1 45 s)) := by unfold Hid; simp [rvB, h1, h3]
 have K : Hid (∀ r : Bool, r = decide (l ≤ Txt.val (Txt.cut1 45 s) ∧ Txt.val (Txt.cut1 45 s) ≤ Txt.val (Txt.cut1 45 s) ∧ Txt.val (Txt.cut1 45 s) ≤ g) → rvK l g s = r) := fun r h => by rw [h, rvK, a.out, b.out]
 have s1 : Hid ((Txt.cut1 45 s).size ≤ 300) := Nat.le_trans (Txt.cut1_size _ _) hs
 have s2 : Hid ((Txt.cut2 45 s).size ≤ 300) := Nat.le_trans (Txt.cut2_size _ _) hs
 have bA := Txt.val_bd (Txt.cut1 45 s)
 have bB := Txt.val_bd (Txt.cut1 45 s)
 clear h1
 go_enter Tryz.func221, Tryz.ntmps221
 go_wp2_with fail
 refine (cut_any _ _ _ hs).mono ?_
 rintro e w' ⟨rfl, n1, rfl⟩
 go_wp2_with fail
 refine (readNumber_any _ _ s1.out).mono ?_
 rintro e w' ⟨rfl, rfl⟩
 by_cases q1 : Txt.val (Txt.cut1 45 s) < 0
 ·obtain ⟨r1, r2⟩ := num_bad q1
  go_wp2_with fail
  exact bodyPost_ret (v := .tuple #[partV 0 0 0, .bool false]) (by simp [results, Tryz.results221, go_sem]) rfl ⟨partR_no (K.out false (decide_eq_false (by omega)).symm), by repeat (first | exact Below.refl _ _ | refine below_drewN ?_ _ | refine Below.setCell ?_ (by simp) _ | refine Below.alloc ?_ (by simp) _)⟩
 obtain ⟨r1, r2⟩ := num_ok (show 0 ≤ Txt.val (Txt.cut1 45 s) by omega)
 by_cases q2 : Txt.val (Txt.cut1 45 s) < l
 ·go_wp2_with fail
  exact bodyPost_ret (v := .tuple #[partV 0 0 0, .bool false]) (by simp [results, Tryz.results221, go_sem]) rfl ⟨partR_no (K.out false (decide_eq_false (by omega)).symm), by repeat (first | exact Below.refl _ _ | refine below_drewN ?_ _ | refine Below.setCell ?_ (by simp) _ | refine Below.alloc ?_ (by simp) _)⟩
 go_wp2_with fail
 refine (readNumber_any _ _ s1.out).mono ?_
 rintro e w' ⟨rfl, rfl⟩
 by_cases q5 : g < Txt.val (Txt.cut1 45 s)
 ·go_wp2_with fail
  exact bodyPost_ret (v := .tuple #[partV 0 0 0, .bool false]) (by simp [results, Tryz.results221, go_sem]) rfl ⟨partR_no (K.out false (decide_eq_false (by omega)).symm), by repeat (first | exact Below.refl _ _ | refine below_drewN ?_ _ | refine Below.setCell ?_ (by simp) _ | refine Below.alloc ?_ (by simp) _)⟩
 go_wp2_with fail
 exact bodyPost_ret (v := .tuple #[partV (Txt.val (Txt.cut1 45 s)) (Txt.val (Txt.cut1 45 s)) 1, .bool true]) (by simp [results, Tryz.results221, go_sem]) rfl ⟨partR_yes (K.out true (decide_eq_true ⟨by omega, by omega, by omega⟩).symm) a.out b.out rfl, by repeat (first | exact Below.refl _ _ | refine below_drewN ?_ _ | refine Below.setCell ?_ (by simp) _ | refine Below.alloc ?_ (by simp) _)⟩

set_option maxHeartbeats 1000000 in
theorem rv_d (s : ByteArray) (l g : Int) (w : World) (hs : s.size ≤ 300) (l1 : 0 ≤ l) (l2 : l ≤ 1) (_g1 : 6 ≤ g) (_g2 : g ≤ 59) (h1 : Txt.star s = false) (h3 : Txt.cut3 45 s = true) :
 Calls Tryz.prog 221 #[.string s, .int .i64 l, .int .i64 g] w fun e w' => PartR (rvK l g s) (rvA l s) (rvB g s) 1 e ∧ Below w.heap.size w w' := by
 have hst : (s.toList == [42]) = false := h1
 have a : Hid (rvA l s = Txt.val (Txt.cut1 45 s)) := by unfold Hid; simp [rvA, h1]
 have b : Hid (rvB g s = Txt.val (Txt.cut2 45 s)) := by unfold Hid; simp [rvB, h1, h3]
 have K : Hid (∀ r : Bool, r = decide (l ≤ Txt.val (Txt.cut1 45 s) ∧ Txt.val (Txt.cut1 45 s) ≤ Txt.val (Txt.cut2 45 s) ∧ Txt.val (Txt.cut2 45 s) ≤ g) → rvK l g s = r) := fun r h => by rw [h, rvK, a.out, b.out]
 have s1 : Hid ((Txt.cut1 45 s).size ≤ 300) := Nat.le_trans (Txt.cut1_size _ _) hs
 have s2 : Hid ((Txt.cut2 45 s).size ≤ 300) := Nat.le_trans (Txt.cut2_size _ _) hs
 have bA := Txt.val_bd (Txt.cut1 45 s)
 have bB := Txt.val_bd (Txt.cut2 45 s)
 clear h1
 go_enter Tryz.func221, Tryz.ntmps221
 go_wp2_with fail
 refine (cut_any _ _ _ hs).mono ?_
 rintro e w' ⟨rfl, n1, rfl⟩
 go_wp2_with fail
 refine (readNumber_any _ _ s1.out).mono ?_
 rintro e w' ⟨rfl, rfl⟩
 by_cases q1 : Txt.val (Txt.cut1 45 s) < 0
 ·obtain ⟨r1, r2⟩ := num_bad q1
  go_wp2_with fail
  exact bodyPost_ret (v := .tuple #[partV 0 0 0, .bool false]) (by simp [results, Tryz.results221, go_sem]) rfl ⟨partR_no (K.out false (decide_eq_false (by omega)).symm), by repeat (first | exact Below.refl _ _ | refine below_drewN ?_ _ | refine Below.setCell ?_ (by simp) _ | refine Below.alloc ?_ (by simp) _)⟩
 obtain ⟨r1, r2⟩ := num_ok (show 0 ≤ Txt.val (Txt.cut1 45 s) by omega)
 by_cases q2 : Txt.val (Txt.cut1 45 s) < l
 ·go_wp2_with fail
  exact bodyPost_ret (v := .tuple #[partV 0 0 0, .bool false]) (by simp [results, Tryz.results221, go_sem]) rfl ⟨partR_no (K.out false (decide_eq_false (by omega)).symm), by repeat (first | exact Below.refl _ _ | refine below_drewN ?_ _ | refine Below.setCell ?_ (by simp) _ | refine Below.alloc ?_ (by simp) _)⟩
 go_wp2_with fail
 refine (readNumber_any _ _ s2.out).mono ?_
 rintro e w' ⟨rfl, rfl⟩
 by_cases q3 : Txt.val (Txt.cut2 45 s) < 0
 ·obtain ⟨r3, r4⟩ := num_bad q3
  go_wp2_with fail
  exact bodyPost_ret (v := .tuple #[partV 0 0 0, .bool false]) (by simp [results, Tryz.results221, go_sem]) rfl ⟨partR_no (K.out false (decide_eq_false (by omega)).symm), by repeat (first | exact Below.refl _ _ | refine below_drewN ?_ _ | refine Below.setCell ?_ (by simp) _ | refine Below.alloc ?_ (by simp) _)⟩
 obtain ⟨r3, r4⟩ := num_ok (show 0 ≤ Txt.val (Txt.cut2 45 s) by omega)
 by_cases q4 : Txt.val (Txt.cut2 45 s) < Txt.val (Txt.cut1 45 s)
 ·go_wp2_with fail
  exact bodyPost_ret (v := .tuple #[partV 0 0 0, .bool false]) (by simp [results, Tryz.results221, go_sem]) rfl ⟨partR_no (K.out false (decide_eq_false (by omega)).symm), by repeat (first | exact Below.refl _ _ | refine below_drewN ?_ _ | refine Below.setCell ?_ (by simp) _ | refine Below.alloc ?_ (by simp) _)⟩
 by_cases q5 : g < Txt.val (Txt.cut2 45 s)
 ·go_wp2_with fail
  exact bodyPost_ret (v := .tuple #[partV 0 0 0, .bool false]) (by simp [results, Tryz.results221, go_sem]) rfl ⟨partR_no (K.out false (decide_eq_false (by omega)).symm), by repeat (first | exact Below.refl _ _ | refine below_drewN ?_ _ | refine Below.setCell ?_ (by simp) _ | refine Below.alloc ?_ (by simp) _)⟩
 go_wp2_with fail
 exact bodyPost_ret (v := .tuple #[partV (Txt.val (Txt.cut1 45 s)) (Txt.val (Txt.cut2 45 s)) 1, .bool true]) (by simp [results, Tryz.results221, go_sem]) rfl ⟨partR_yes (K.out true (decide_eq_true ⟨by omega, by omega, by omega⟩).symm) a.out b.out rfl, by repeat (first | exact Below.refl _ _ | refine below_drewN ?_ _ | refine Below.setCell ?_ (by simp) _ | refine Below.alloc ?_ (by simp) _)⟩

theorem readValues_any (s : ByteArray) (l g : Int) (w : World) (hs : s.size ≤ 300) (l1 : 0 ≤ l) (l2 : l ≤ 1) (g1 : 6 ≤ g) (g2 : g ≤ 59) :
 Calls Tryz.prog 221 #[.string s, .int .i64 l, .int .i64 g] w fun e w' => PartR (rvK l g s) (rvA l s) (rvB g s) 1 e ∧ Below w.heap.size w w' := by
 cases h1 : Txt.star s
 ·cases h3 : Txt.cut3 45 s
  ·exact rv_c s l g w hs l1 l2 g1 g2 h1 h3
  ·exact rv_d s l g w hs l1 l2 g1 g2 h1 h3
 ·exact rv_star s l g w hs l1 l2 g1 g2 h1
end Go.Proofs.YtdajolpoiffimaaGreatDoor

namespace Go.Proofs.YtdajolpoiffimaaGreatDoor
open Go.RowKit

theorem digs_plain {s : ByteArray} (h : Txt.digs s = true) : Txt.star s = false ∧ Txt.cut3 45 s = false := by
 constructor
 ·cases e : Txt.star s
  ·rfl
  ·have e' : s.toList = [42] := by simpa [Txt.star] using e
   have hl : s.data.toList = [42] := by rw [← e']; simp [ByteArray.toList_eq]
   rw [Txt.digs, hl] at h
   cases h
 ·have hn : Txt.NoSep 45 s 0 s.size := by
   intro j hj _ _
   have := Txt.dg_of (Txt.digs_at h j hj)
   have : ¬ ((s[j].toNat : Int) = 45) := by omega
   simpa using this
  exact (Txt.cut_no hn).2.2
theorem rv_nodash {l g : Int} {s : ByteArray} (l1 : 0 ≤ l) (h : Txt.digs s = false) (k : rvK l g s = true) : Txt.star s = true ∨ Txt.cut3 45 s = true := by
 cases h1 : Txt.star s
 ·cases h3 : Txt.cut3 45 s
  ·exfalso
   have hf : ¬ Txt.fst 45 s < s.size := by simpa [Txt.cut3] using h3
   have e : Txt.cut1 45 s = s := by simp [Txt.cut1, hf]
   have v : Txt.val s = -1 := Txt.val_no (Or.inr (Or.inr h))
   have := (of_decide_eq_true k).1
   simp [rvA, h1, e, v] at this
   omega
  ·exact Or.inr rfl
 ·exact Or.inl rfl
theorem spK_eq (l g : Int) (p : ByteArray) : Txt.spK l g p = decide ((Txt.star (Txt.cut1 47 p) = true ∨ Txt.cut3 47 p = false ∨ Txt.cut3 45 (Txt.cut1 47 p) = true) ∧ 1 ≤ Txt.spS p ∧ rvK l g (Txt.cut1 47 p) = true) := by
 have : Txt.spK l g p = decide ((Txt.star (Txt.cut1 47 p) = true ∨ Txt.cut3 47 p = false ∨ Txt.cut3 45 (Txt.cut1 47 p) = true) ∧ 1 ≤ Txt.spS p ∧ l ≤ rvA l (Txt.cut1 47 p) ∧ rvA l (Txt.cut1 47 p) ≤ rvB g (Txt.cut1 47 p) ∧ rvB g (Txt.cut1 47 p) ≤ g) := rfl
 rw [this]
 simp only [rvK, decide_eq_true_eq]

set_option maxHeartbeats 1000000 in
theorem rp_a (p : ByteArray) (l g : Int) (w : World) (hs : p.size ≤ 300) (l1 : 0 ≤ l) (l2 : l ≤ 1) (g1 : 6 ≤ g) (g2 : g ≤ 59) (h2 : Txt.cut3 47 p = false) :
 Calls Tryz.prog 207 #[.string p, .int .i64 l, .int .i64 g] w fun e w' => PartR (Txt.spK l g p) (Txt.spA l p) (Txt.spB g p) (Txt.spS p) e ∧ Below w.heap.size w w' := by
 have K : Hid (Txt.spK l g p = rvK l g (Txt.cut1 47 p)) := by
  have e : Txt.spS p = 1 := by simp [Txt.spS, h2]
  unfold Hid; rw [spK_eq, e]
  cases q : rvK l g (Txt.cut1 47 p) <;> simp [h2]
 have S : Hid (Txt.spS p = 1) := by unfold Hid; simp [Txt.spS, h2]
 have s1 : Hid ((Txt.cut1 47 p).size ≤ 300) := Nat.le_trans (Txt.cut1_size _ _) hs
 have s2 : Hid ((Txt.cut2 47 p).size ≤ 300) := Nat.le_trans (Txt.cut2_size _ _) hs
 go_enter Tryz.func207, Tryz.ntmps207
 go_wp2_with fail
 refine (cut_any _ _ _ hs).mono ?_
 rintro e w' ⟨rfl, n1, rfl⟩
 go_wp2_with fail
 refine (readValues_any _ _ _ _ s1.out l1 l2 g1 g2).mono ?_
 rintro e w1 ⟨hR, hb⟩
 have B1 : Hid (Below w.heap.size w w1) := (below_drewN (below_alloc w _) _).trans (hb.mono (by simp))
 obtain ⟨hc, hf⟩ := bcell hb
 have hz : w.heap.size < w1.heap.size := by have := hb.size; simp at this; omega
 have hz0 : w.heap.size ≤ w1.heap.size := by omega
 clear hb
 rcases hR with ⟨k, rfl⟩ | ⟨k, rfl⟩
 ·have KK : Hid (Txt.spK l g p = true) := K.out.trans k
  clear k
  go_wp2_with fail
  exact bodyPost_ret (v := .tuple #[partV (rvA l (Txt.cut1 47 p)) (rvB g (Txt.cut1 47 p)) 1, .bool true]) (by simp [results, Tryz.results207, go_sem, hc]) rfl ⟨partR_yes KK.out rfl rfl S.out, by repeat (first | exact Below.refl _ _ | exact B1.out | refine below_drewN ?_ _ | refine Below.setCell ?_ (by simp) _ | refine Below.alloc ?_ (by first | exact hz0 | (simp; done) | (simp; omega)) _)⟩
 ·have KK : Hid (Txt.spK l g p = false) := K.out.trans k
  clear k
  go_wp2_with fail
  exact bodyPost_ret (v := .tuple #[partV 0 0 0, .bool false]) (by simp [results, Tryz.results207, go_sem, hc]) rfl ⟨partR_no KK.out, by repeat (first | exact Below.refl _ _ | exact B1.out | refine below_drewN ?_ _ | refine Below.setCell ?_ (by simp) _ | refine Below.alloc ?_ (by first | exact hz0 | (simp; done) | (simp; omega)) _)⟩

set_option maxHeartbeats 1000000 in
theorem rp_b (p : ByteArray) (l g : Int) (w : World) (hs : p.size ≤ 300) (_l1 : 0 ≤ l) (_l2 : l ≤ 1) (_g1 : 6 ≤ g) (_g2 : g ≤ 59) (h2 : Txt.cut3 47 p = true) (hd : Txt.digs (Txt.cut1 47 p) = true) :
 Calls Tryz.prog 207 #[.string p, .int .i64 l, .int .i64 g] w fun e w' => PartR (Txt.spK l g p) (Txt.spA l p) (Txt.spB g p) (Txt.spS p) e ∧ Below w.heap.size w w' := by
 have KK : Hid (Txt.spK l g p = false) := by
  have := digs_plain hd
  unfold Hid; rw [spK_eq]; simp [h2, this.1, this.2]
 have s1 : Hid ((Txt.cut1 47 p).size ≤ 300) := Nat.le_trans (Txt.cut1_size _ _) hs
 have s2 : Hid ((Txt.cut2 47 p).size ≤ 300) := Nat.le_trans (Txt.cut2_size _ _) hs
 go_enter Tryz.func207, Tryz.ntmps207
 go_wp2_with fail
 refine (cut_any _ _ _ hs).mono ?_
 rintro e w' ⟨rfl, n1, rfl⟩
 go_wp2_with fail
 refine (isDigits_any _ _ s1.out).mono ?_
 rintro e w' ⟨rfl, rfl⟩
 go_wp2_with fail
 exact bodyPost_ret (v := .tuple #[partV 0 0 0, .bool false]) (by simp [results, Tryz.results207, go_sem]) rfl ⟨partR_no KK.out, by repeat (first | exact Below.refl _ _ | refine below_drewN ?_ _ | refine Below.setCell ?_ (by simp) _ | refine Below.alloc ?_ (by simp) _)⟩

set_option maxHeartbeats 1000000 in
theorem rp_c (p : ByteArray) (l g : Int) (w : World) (hs : p.size ≤ 300) (l1 : 0 ≤ l) (l2 : l ≤ 1) (g1 : 6 ≤ g) (g2 : g ≤ 59) (h2 : Txt.cut3 47 p = true) (hd : Txt.digs (Txt.cut1 47 p) = false) :
 Calls Tryz.prog 207 #[.string p, .int .i64 l, .int .i64 g] w fun e w' => PartR (Txt.spK l g p) (Txt.spA l p) (Txt.spB g p) (Txt.spS p) e ∧ Below w.heap.size w w' := by
 have S : Hid (Txt.spS p = Txt.val (Txt.cut2 47 p)) := by unfold Hid; simp [Txt.spS, h2]
 have K0 : Hid (rvK l g (Txt.cut1 47 p) = false → Txt.spK l g p = false) := fun k => by rw [spK_eq]; simp [k]
 have K1 : Hid (Txt.val (Txt.cut2 47 p) < 1 → Txt.spK l g p = false) := fun k => by rw [spK_eq, S.out]; exact decide_eq_false (by omega)
 have K2 : Hid (rvK l g (Txt.cut1 47 p) = true → 1 ≤ Txt.val (Txt.cut2 47 p) → Txt.spK l g p = true) := fun k q => by
  rw [spK_eq, S.out]
  exact decide_eq_true ⟨by rcases rv_nodash l1 hd k with h | h <;> simp [h], q, k⟩
 have s1 : Hid ((Txt.cut1 47 p).size ≤ 300) := Nat.le_trans (Txt.cut1_size _ _) hs
 have s2 : Hid ((Txt.cut2 47 p).size ≤ 300) := Nat.le_trans (Txt.cut2_size _ _) hs
 go_enter Tryz.func207, Tryz.ntmps207
 go_wp2_with fail
 refine (cut_any _ _ _ hs).mono ?_
 rintro e w' ⟨rfl, n1, rfl⟩
 go_wp2_with fail
 refine (isDigits_any _ _ s1.out).mono ?_
 rintro e w' ⟨rfl, rfl⟩
 go_wp2_with fail
 refine (readValues_any _ _ _ _ s1.out l1 l2 g1 g2).mono ?_
 rintro e w1 ⟨hR, hb⟩
 have B1 : Hid (Below w.heap.size w w1) := (below_drewN (below_alloc w _) _).trans (hb.mono (by simp))
 obtain ⟨hc, hf⟩ := bcell hb
 have hz : w.heap.size < w1.heap.size := by have := hb.size; simp at this; omega
 have hz0 : w.heap.size ≤ w1.heap.size := by omega
 clear hb
 have bS := Txt.val_bd (Txt.cut2 47 p)
 rcases hR with ⟨k, rfl⟩ | ⟨k, rfl⟩
 ·have kk : Hid (rvK l g (Txt.cut1 47 p) = true) := k
  clear k
  go_wp2_with fail
  refine (readNumber_any _ _ s2.out).mono ?_
  rintro e w' ⟨rfl, rfl⟩
  by_cases q1 : Txt.val (Txt.cut2 47 p) < 0
  ·obtain ⟨r1, r2⟩ := num_bad q1
   go_wp2_with fail
   exact bodyPost_ret (v := .tuple #[partV 0 0 0, .bool false]) (by simp [results, Tryz.results207, go_sem, hc, hz]) rfl ⟨partR_no (K1.out (by omega)), by repeat (first | exact Below.refl _ _ | exact B1.out | refine below_drewN ?_ _ | refine Below.setCell ?_ (by simp) _ | refine Below.alloc ?_ (by first | exact hz0 | (simp; done) | (simp; omega)) _)⟩
  obtain ⟨r1, r2⟩ := num_ok (show 0 ≤ Txt.val (Txt.cut2 47 p) by omega)
  by_cases q2 : Txt.val (Txt.cut2 47 p) < 1
  ·go_wp2_with fail
   exact bodyPost_ret (v := .tuple #[partV 0 0 0, .bool false]) (by simp [results, Tryz.results207, go_sem, hc, hz]) rfl ⟨partR_no (K1.out (by omega)), by repeat (first | exact Below.refl _ _ | exact B1.out | refine below_drewN ?_ _ | refine Below.setCell ?_ (by simp) _ | refine Below.alloc ?_ (by first | exact hz0 | (simp; done) | (simp; omega)) _)⟩
  go_wp2_with fail
  exact bodyPost_ret (v := .tuple #[partV (rvA l (Txt.cut1 47 p)) (rvB g (Txt.cut1 47 p)) (Txt.val (Txt.cut2 47 p)), .bool true]) (by simp [results, Tryz.results207, go_sem, hc, hz]) rfl ⟨partR_yes (K2.out kk.out (by omega)) rfl rfl S.out, by repeat (first | exact Below.refl _ _ | exact B1.out | refine below_drewN ?_ _ | refine Below.setCell ?_ (by simp) _ | refine Below.alloc ?_ (by first | exact hz0 | (simp; done) | (simp; omega)) _)⟩
 ·have KK : Hid (Txt.spK l g p = false) := K0.out k
  clear k
  go_wp2_with fail
  exact bodyPost_ret (v := .tuple #[partV 0 0 0, .bool false]) (by simp [results, Tryz.results207, go_sem, hc, hz]) rfl ⟨partR_no KK.out, by repeat (first | exact Below.refl _ _ | exact B1.out | refine below_drewN ?_ _ | refine Below.setCell ?_ (by simp) _ | refine Below.alloc ?_ (by first | exact hz0 | (simp; done) | (simp; omega)) _)⟩

theorem readPart_any (p : ByteArray) (l g : Int) (w : World) (hs : p.size ≤ 300) (l1 : 0 ≤ l) (l2 : l ≤ 1) (g1 : 6 ≤ g) (g2 : g ≤ 59) :
 Calls Tryz.prog 207 #[.string p, .int .i64 l, .int .i64 g] w fun e w' => PartR (Txt.spK l g p) (Txt.spA l p) (Txt.spB g p) (Txt.spS p) e ∧ Below w.heap.size w w' := by
 cases h2 : Txt.cut3 47 p
 ·exact rp_a p l g w hs l1 l2 g1 g2 h2
 ·cases hd : Txt.digs (Txt.cut1 47 p)
  ·exact rp_c p l g w hs l1 l2 g1 g2 h2 hd
  ·exact rp_b p l g w hs l1 l2 g1 g2 h2 hd
end Go.Proofs.YtdajolpoiffimaaGreatDoor

namespace Go.Proofs.YtdajolpoiffimaaGreatDoor
open Go.RowKit

/-- The parts of a field lie one behind the other. -/
def PartsAt (w : World) (b : Nat) (l g : Int) (L : List ByteArray) : Prop := ∀ k (h : k < L.length), w.cell? ⟨b, k * 3, none⟩ = some (.int .i64 (Txt.spA l L[k])) ∧ w.cell? ⟨b, k * 3 + 1, none⟩ = some (.int .i64 (Txt.spB g L[k])) ∧ w.cell? ⟨b, k * 3 + 2, none⟩ = some (.int .i64 (Txt.spS L[k]))
theorem PartsAt.later {w w' : World} {b : Nat} {l g : Int} {L : List ByteArray} (a : PartsAt w b l g L) (hb : Below w.heap.size w w') : PartsAt w' b l g L :=
 fun k h => ⟨cell_later hb (a k h).1, cell_later hb (a k h).2.1, cell_later hb (a k h).2.2⟩

set_option maxHeartbeats 1000000 in
theorem fieldHolds_any (f : ByteArray) (l g v : Int) (o : Bool) (b cap : Nat) (w : World) (hs : f.size ≤ 300) (l1 : 0 ≤ l) (g2 : g ≤ 59) (v1 : 0 ≤ v) (v2 : v ≤ 60) (hf : Txt.fldB l g f = true) (hP : PartsAt w b l g (Txt.pcs 44 f)) (_hcap : (Txt.pcs 44 f).length ≤ cap) :
 Calls Tryz.prog 195 #[.agg #[.bool o, .slice (some ⟨b, 0, none⟩) (Txt.pcs 44 f).length cap], .int .i64 v] w fun e w' => e = .returned (.bool (Txt.hldB l g v f)) ∧ Below w.heap.size w w' := by
 have HF : Hid (Txt.fldB l g f = true) := hf
 have HP : Hid (∀ o, PartsAt (w.alloc o) b l g (Txt.pcs 44 f)) := fun o => hP.later (below_alloc _ _)
 have hlen := Txt.pcs_len 44 f
 clear hf hP
 go_enter Tryz.func195, Tryz.ntmps195
 go_wp2_with fail
 go_loopw [5] (fun x wr => ∃ k : Nat, k ≤ (Txt.pcs 44 f).length ∧ x = .int .i64 k ∧ (∀ j (hj : j < (Txt.pcs 44 f).length), j < k → Txt.inB (Txt.spA l (Txt.pcs 44 f)[j]) (Txt.spB g (Txt.pcs 44 f)[j]) (Txt.spS (Txt.pcs 44 f)[j]) v = false) ∧ Below (w.alloc (.cells #[.bool o, .slice (some ⟨b, 0, none⟩) (Txt.pcs 44 f).length cap] 187)).heap.size (w.alloc (.cells #[.bool o, .slice (some ⟨b, 0, none⟩) (Txt.pcs 44 f).length cap] 187)) wr) (fun x _ => (Txt.pcs 44 f).length - (intOf x).toNat)
 case atStart => exact ⟨0, Nat.zero_le _, rfl, fun j _ h => by omega, Below.refl _ _⟩
 case round =>
  obtain ⟨k, hk, rfl, hall, hb⟩ := hrel
  have HA : Hid (∀ j (hj : j < (Txt.pcs 44 f).length), j < k → Txt.inB (Txt.spA l (Txt.pcs 44 f)[j]) (Txt.spB g (Txt.pcs 44 f)[j]) (Txt.spS (Txt.pcs 44 f)[j]) v = false) := hall
  clear hall
  have hbox : wr.cell? ⟨w.heap.size, 1, none⟩ = some (.slice (some ⟨b, 0, none⟩) (Txt.pcs 44 f).length cap) := cell_later hb (by simp [go_sem])
  have HB : Hid (Below w.heap.size w wr) := (below_alloc w _).trans (hb.mono (by simp))
  by_cases hlt : k < (Txt.pcs 44 f).length
  ·obtain ⟨c0, c1, c2⟩ := ((HP.out _).later hb) k hlt
   have hK := Txt.fldB_at HF.out k hlt
   have hbd := Txt.spK_bd hK
   clear hK
   go_wp2_with fail
   refine (partHolds_any _ _ _ _ _ v1 v2 (by omega) (by omega) (by omega) (by omega)).mono ?_
   rintro e w2 ⟨rfl, hb2⟩
   have hb' := hb.trans (hb2.mono hb.size)
   have HB' : Hid (Below w.heap.size w w2) := HB.out.trans (hb2.mono (by have := hb.size; simp at this; omega))
   clear hb hb2 c0 c1 c2 hbox
   cases hq : Txt.inB (Txt.spA l (Txt.pcs 44 f)[k]) (Txt.spB g (Txt.pcs 44 f)[k]) (Txt.spS (Txt.pcs 44 f)[k]) v
   ·have HQ : Hid (Txt.inB (Txt.spA l (Txt.pcs 44 f)[k]) (Txt.spB g (Txt.pcs 44 f)[k]) (Txt.spS (Txt.pcs 44 f)[k]) v = false) := hq
    go_wp2_with fail
    go_roundw
    case rel =>
     refine ⟨k + 1, by omega, by go_num, fun j hj h => ?_, hb'⟩
     by_cases q : j = k
     ·subst q; exact HQ.out
     ·exact HA.out j hj (by omega)
    case measure => simp [intOf]; omega
   ·have e : Hid (Txt.hldB l g v f = true) := Txt.hldB_yes hlt hq
    go_wp2_with fail
    go_ret
    exact ⟨ret_bool' e.out.symm, HB'.out⟩
  ·have e : Hid (Txt.hldB l g v f = false) := Txt.hldB_no (fun j hj => HA.out j hj (by omega))
   go_wp2_with fail
   go_ret
   exact ⟨ret_bool' e.out.symm, HB.out⟩
end Go.Proofs.YtdajolpoiffimaaGreatDoor

namespace Go.Proofs.YtdajolpoiffimaaGreatDoor
open Go.RowKit
open Txt (NoSep)

set_option maxHeartbeats 1000000 in
theorem split_any (s : ByteArray) (c : Int) (w : World) (hs : s.size ≤ 300) :
 Calls Tryz.prog 187 #[.string s, .int .u8 c] w fun e w' => (∃ b cap, e = .returned (.slice (some ⟨b, 0, none⟩) (Txt.pcs c s).length cap) ∧ w.heap.size ≤ b ∧ (Txt.pcs c s).length ≤ cap ∧ StrsAt w' b (Txt.pcs c s)) ∧ Below w.heap.size w w' := by
 obtain ⟨i0, hi, hz0, hz1, hz2⟩ := info_parts infoStr
 go_enter Tryz.func187, Tryz.ntmps187
 go_wp2_with fail
 go_loopw [5, 6, 7] (fun v st i wr => ∃ (k a : Nat) (L : List ByteArray), k ≤ s.size ∧ a ≤ k ∧ i = .int .i64 k ∧ st = .int .i64 a ∧ L.length ≤ a ∧ Txt.pcs c s = L ++ Txt.pcs c (s.extract a s.size) ∧ NoSep c s a k ∧ wr.ownsRow w.heap.size 9 1 v L.length (L.map Value.string) ∧ Below w.heap.size w wr) (fun _ _ i _ => s.size - (intOf i).toNat)
 case atStart =>
  refine ⟨0, 0, [], Nat.zero_le _, Nat.le_refl _, rfl, rfl, Nat.le_refl _, ?_, NoSep.nil _ _ _, ?_, below_alloc _ _⟩
  ·rw [Txt.whole]; rfl
  ·exact ⟨rfl, Or.inr ⟨w.heap.size, 0, #[], rfl, Nat.le_refl _, (MapKept.heap_alloc w _).1, Nat.le_refl _, Nat.zero_le _, rfl, rfl⟩⟩
 case round =>
  obtain ⟨k, a, L, hk, ha, rfl, rfl, hL, hp, hn, hown, hnx⟩ := hrel
  have HP : Hid (Txt.pcs c s = L ++ Txt.pcs c (s.extract a s.size)) := hp
  have HN : Hid (NoSep c s a k) := hn
  have hsz := hnx.size
  clear hp hn
  by_cases hlt : k < s.size
  ·cases he : ((s[k].toNat : Int) == c)
   ·have HN' : Hid (NoSep c s a (k + 1)) := HN.out.snoc hlt he
    go_wp2_with fail
    go_roundw
    case rel => exact ⟨k + 1, a, L, by omega, by omega, by go_num, rfl, hL, HP.out, HN'.out, hown, hnx⟩
    case measure => simp [intOf]; omega
   ·have HP' : Hid (Txt.pcs c s = (L ++ [s.extract a k]) ++ Txt.pcs c (s.extract (k + 1) s.size)) := by
     unfold Hid; rw [HP.out, Txt.pcs_step HN.out hlt ha he]; simp
    go_wp2_with (at_builtin; refine wpList_append_lies _ rfl (.tmp 20) (.tmp 25) 47 rfl w.heap.size 9 i0 (.string ByteArray.empty) 1 16 Tryz.underlying47 hi hz0 hz1 hz2 rfl (by decide) _ _ _ rfl (hown.alloc _) ⟨wr.heap.size, 0, none⟩ 1 1 [.string (s.extract a k)] rfl rfl ?c1 ?c2 (by decide) ?c3 ?c4 ?c5 _ rfl ?_)
    case c1 => exact cell_one_new _ _ _
    case c2 => intro u hu; simp at hu; subst hu; rfl
    case c3 => unfold maxLen; omega
    case c4 => omega
    case c5 => simp; omega
    ·intro g cap w1 hown' hgrow _ hlt'
     have B1 : Below w.heap.size w w1 := (hnx.alloc hsz _).grown hgrow (by simp; omega) (fun k' e => (hown.lt k' e).1)
     have hown2 : w1.ownsRow w.heap.size 9 1 (.slice (some ⟨g, 0, none⟩) (L.length + 1) cap) (L ++ [s.extract a k]).length ((L ++ [s.extract a k]).map Value.string) := by simpa using hown'
     clear hown' hgrow hown hnx
     go_wp2_with fail
     go_roundw
     case rel => exact ⟨k + 1, k + 1, L ++ [s.extract a k], by omega, by omega, by go_num, by go_num, by simp; omega, HP'.out, NoSep.nil _ _ _, hown2, B1⟩
     case measure => simp [intOf]; omega
  ·obtain rfl : k = s.size := by omega
   have HP' : Hid (Txt.pcs c s = L ++ [s.extract a s.size]) := by unfold Hid; rw [HP.out, Txt.pcs_last HN.out]
   go_wp2_with (at_builtin; refine wpList_append_lies _ rfl (.tmp 29) (.tmp 33) 47 rfl w.heap.size 9 i0 (.string ByteArray.empty) 1 16 Tryz.underlying47 hi hz0 hz1 hz2 rfl (by decide) _ _ _ rfl (hown.alloc _) ⟨wr.heap.size, 0, none⟩ 1 1 [.string (s.extract a s.size)] rfl rfl ?c1 ?c2 (by decide) ?c3 ?c4 ?c5 _ rfl ?_)
   case c1 => exact cell_one_new _ _ _
   case c2 => intro u hu; simp at hu; subst hu; rfl
   case c3 => unfold maxLen; omega
   case c4 => omega
   case c5 => simp; omega
   ·intro g cap w1 hown' hgrow _ hlt'
    have B1 : Below w.heap.size w w1 := (hnx.alloc hsz _).grown hgrow (by simp; omega) (fun k' e => (hown.lt k' e).1)
    have hown2 : w1.ownsRow w.heap.size 9 1 (.slice (some ⟨g, 0, none⟩) (L.length + 1) cap) (L.length + 1) ((L ++ [s.extract a s.size]).map Value.string) := by simpa using hown'
    have hlen : L.length + 1 = (Txt.pcs c s).length := by rw [HP'.out]; simp
    have hA : StrsAt w1 g (Txt.pcs c s) := by rw [HP'.out]; exact strs_of_own hown2 (by simp)
    have hcap : L.length + 1 ≤ cap ∧ w.heap.size ≤ g := by
     rcases hown2.2 with ⟨h, _⟩ | ⟨g', cap', cur, h, h3, _, h2, _⟩
     ·cases h
     ·cases h; exact ⟨h2, h3⟩
    clear hown' hgrow hown hnx hown2
    go_wp2_with fail
    go_ret
    exact ⟨⟨g, cap, ret_slice hlen, hcap.2, by omega, hA⟩, B1⟩
end Go.Proofs.YtdajolpoiffimaaGreatDoor

namespace Go.Proofs.YtdajolpoiffimaaGreatDoor
open Go.RowKit

set_option maxHeartbeats 1000000 in
theorem splitLines_any (s : ByteArray) (w : World) (hs : s.size ≤ 300) :
 Calls Tryz.prog 154 #[.string s] w fun e w' => (∃ b cap, e = .returned (.tuple #[.slice (some ⟨b, 0, none⟩) (tn s) cap, .string (tl s (tn s))]) ∧ w.heap.size ≤ b ∧ tn s ≤ cap ∧ StrsAt w' b (Txt.pcs 10 s)) ∧ Below w.heap.size w w' := by
 go_enter Tryz.func154, Tryz.ntmps154
 go_wp2_with fail
 refine (split_any _ _ _ hs).mono ?_
 rintro e w1 ⟨⟨b, cap, rfl, hge, hcap, hS⟩, hb⟩
 have hlen := Txt.pcs_len 10 s
 have hn := tn_len s
 have HN : Hid ((Txt.pcs 10 s).length = tn s + 1) := hn
 have HS : Hid (StrsAt w1 b (Txt.pcs 10 s)) := hS
 rw [hn] at hcap hlen ⊢
 have c : w1.cell? ⟨b, tn s, none⟩ = some (.string (tl s (tn s))) := by rw [← tl_eq (tn_lt s)]; exact hS _ (tn_lt s)
 clear hn hS
 have b1 : (0 : Int) ≤ (tn s : Int) := by omega
 have b2 : (tn s : Int) < ((tn s + 1 : Nat) : Int) := by omega
 have b3 : (tn s : Int) ≤ (cap : Int) := by omega
 go_wp2_with fail
 go_quiet (fail)
 go_wp2_with fail
 go_ret2
 exact ⟨⟨b, cap, rfl, hge, by omega, HS.out⟩, below_drewN hb _⟩
end Go.Proofs.YtdajolpoiffimaaGreatDoor

namespace Go.Proofs.YtdajolpoiffimaaGreatDoor
open Go.RowKit

/-- The cells of a part. -/
def pc (l g : Int) (p : ByteArray) : List Value := [.int .i64 (Txt.spA l p), .int .i64 (Txt.spB g p), .int .i64 (Txt.spS p)]
theorem pc_at (l g : Int) (L : List ByteArray) (k : Nat) (h : k < L.length) (j : Nat) (hj : j < 3) : (L.flatMap (pc l g))[k * 3 + j]? = (pc l g L[k])[j]? := by
 induction L generalizing k with
 | nil => simp at h
 | cons a r ih =>
   cases k with
   | zero =>
     simp only [List.flatMap_cons, Nat.zero_mul, Nat.zero_add, List.getElem_cons_zero]
     rw [List.getElem?_append_left (by simpa [pc] using hj)]
   | succ k =>
     simp only [List.flatMap_cons, List.getElem_cons_succ]
     rw [List.getElem?_append_right (by simp [pc]; omega)]
     have e : (k + 1) * 3 + j - (pc l g a).length = k * 3 + j := by simp [pc]; omega
     rw [e]
     exact ih k (by simpa using h)
theorem parts_of_own {w : World} {base b n cap : Nat} {e : TypeId} {l g : Int} {L : List ByteArray} (h : w.ownsRow base e 3 (.slice (some ⟨b, 0, none⟩) n cap) n (L.flatMap (pc l g))) (hn : n = L.length) : PartsAt w b l g L := by
 intro k hk
 refine ⟨?_, ?_, ?_⟩
 ·have := h.cellAt (k * 3) (by omega)
  rw [this]; have := pc_at l g L k hk 0 (by decide); simpa [pc] using this
 ·have := h.cellAt (k * 3 + 1) (by omega)
  rw [this]; have := pc_at l g L k hk 1 (by decide); simpa [pc] using this
 ·have := h.cellAt (k * 3 + 2) (by omega)
  rw [this]; have := pc_at l g L k hk 2 (by decide); simpa [pc] using this

/-- What holds while a field is read. -/
structure FInv (w wr : World) (base b : Nat) (o : Bool) (v : Value) (L : List ByteArray) (n : Nat) (xs : List Value) : Prop where
 c0 : wr.cell? ⟨w.heap.size + 1, 0, none⟩ = some (.bool o)
 c1 : wr.cell? ⟨w.heap.size + 1, 1, none⟩ = some v
 r0 : wr.cell? ⟨w.heap.size, 0, none⟩ = some (.bool false)
 r1 : wr.cell? ⟨w.heap.size, 1, none⟩ = some (.slice none 0 0)
 f0 : wr.frozen? ⟨w.heap.size, 0, none⟩ = false
 f1 : wr.frozen? ⟨w.heap.size, 1, none⟩ = false
 f2 : wr.frozen? ⟨w.heap.size + 1, 1, none⟩ = false
 strs : StrsAt wr b L
 own : wr.ownsRow base 266 3 v n xs
 bel : Below w.heap.size w wr
 hB : w.heap.size + 1 < base
 hb : b < base
 hbg : w.heap.size + 1 < b
 hbase : base ≤ wr.heap.size
theorem FInv.below {w wr w' : World} {base b : Nat} {o : Bool} {v : Value} {L : List ByteArray} {n : Nat} {xs : List Value} (h : FInv w wr base b o v L n xs) (k : Below wr.heap.size wr w') : FInv w w' base b o v L n xs := by
 have h1 := h.hB; have h2 := h.hbase; have h3 := h.bel.size
 exact ⟨cell_later k h.c0, cell_later k h.c1, cell_later k h.r0, cell_later k h.r1, (k.frozen (by simp; omega)).trans h.f0, (k.frozen (by simp; omega)).trans h.f1, (k.frozen (by simp; omega)).trans h.f2,
  h.strs.later k, own_below h.own k, h.bel.trans (k.mono h3), h.hB, h.hb, h.hbg, Nat.le_trans h2 k.size⟩
theorem FInv.far {w wr w2 : World} {base b : Nat} {o : Bool} {v : Value} {L : List ByteArray} {n : Nat} {xs : List Value} (h : FInv w wr base b o v L n xs) (hg : wr.grownBy w2 v.ownBlock) : Below base wr w2 :=
 (Below.refl _ _).grown hg h.hbase (fun k e => (h.own.lt k e).1)
theorem FInv.app {w wr w2 : World} {base b : Nat} {o : Bool} {v v' : Value} {L : List ByteArray} {n n' : Nat} {xs xs' : List Value} (h : FInv w wr base b o v L n xs) (hg : wr.grownBy w2 v.ownBlock) (ho : w2.ownsRow base 266 3 v' n' xs') :
 FInv w (w2.setCell ⟨w.heap.size + 1, 1, none⟩ v') base b o v' L n' xs' := by
 have k := h.far hg
 have h1 := h.hB; have h2 := h.hbase; have h4 := h.bel.size
 have cell : ∀ (a : Nat) (j : Nat) (u : Value), a < base → ¬ (a = w.heap.size + 1 ∧ j = 1) → wr.cell? ⟨a, j, none⟩ = some u → (w2.setCell ⟨w.heap.size + 1, 1, none⟩ v').cell? ⟨a, j, none⟩ = some u := by
  intro a j u ha hne hc
  rw [World.cell?_setCell_other _ _ _ _ (by first | (simp; done) | (simp; omega)), k.cell (p := ⟨a, j, none⟩) ha]; exact hc
 have fro : ∀ (a j : Nat), a < base → (w2.setCell ⟨w.heap.size + 1, 1, none⟩ v').frozen? ⟨a, j, none⟩ = wr.frozen? ⟨a, j, none⟩ := by
  intro a j ha
  rw [World.frozen?_setCell, k.frozen (p := ⟨a, j, none⟩) ha]
 refine ⟨cell _ _ _ (by omega) (by omega) h.c0, ?_, cell _ _ _ (by omega) (by omega) h.r0, cell _ _ _ (by omega) (by omega) h.r1, (fro _ _ (by omega)).trans h.f0, (fro _ _ (by omega)).trans h.f1, (fro _ _ (by omega)).trans h.f2, ?_, ?_, ?_, h.hB, h.hb, h.hbg, ?_⟩
 ·exact World.cell?_setCell_same' _ _ _ (by rw [k.cell (p := ⟨w.heap.size + 1, 1, none⟩) (by simp; omega), h.c1]; rfl)
 ·intro j hj
  have := h.hbg
  exact cell _ _ _ h.hb (by omega) (h.strs j hj)
 ·exact ownsRow_setCell_below ho (by simp; omega) _
 ·exact (h.bel.trans (k.mono (by omega))).setCell (by simp) _
 ·have := hg.size; simp [World.setCell]; omega

theorem infoPart : (Tryz.prog.info? 266).map (fun i => (i.zero, i.size, i.bytes)) = some (some (.agg #[.int .i64 0, .int .i64 0, .int .i64 0]), 3, 24) := by kernel_rfl

/-- What readField answers. -/
def FieldR (l g : Int) (f : ByteArray) (h : Nat) (w' : World) (e : Ending) : Prop :=
 (Txt.fldB l g f = true ∧ ∃ b cap, e = .returned (.tuple #[.agg #[.bool (Txt.opn f), .slice (some ⟨b, 0, none⟩) (Txt.pcs 44 f).length cap], .bool true]) ∧ h ≤ b ∧ (Txt.pcs 44 f).length ≤ cap ∧ PartsAt w' b l g (Txt.pcs 44 f)) ∨
 (Txt.fldB l g f = false ∧ e = .returned (.tuple #[.agg #[.bool false, .slice none 0 0], .bool false]))
theorem take_pc (l g : Int) (L : List ByteArray) (k : Nat) (h : k < L.length) : (L.take (k + 1)).flatMap (pc l g) = (L.take k).flatMap (pc l g) ++ pc l g L[k] := by
 rw [List.take_succ_eq_append_getElem h, List.flatMap_append]; simp

set_option maxHeartbeats 1000000 in
theorem readField_a (f : ByteArray) (l g : Int) (w : World) (hs : f.size ≤ 300) (l1 : 0 ≤ l) (l2 : l ≤ 1) (g1 : 6 ≤ g) (g2 : g ≤ 59) (hf0 : 0 < f.size) :
 Calls Tryz.prog 188 #[.string f, .int .i64 l, .int .i64 g] w fun e w' => FieldR l g f w.heap.size w' e ∧ Below w.heap.size w w' := by
 obtain ⟨i0, hi, hz0, hz1, hz2⟩ := info_parts infoPart
 have hlen := Txt.pcs_len 44 f
 have ho : Hid (((f[0].toNat : Int) == 42) = Txt.opn f) := (Txt.opn_at hf0).symm
 go_enter Tryz.func188, Tryz.ntmps188
 go_wp2_with fail
 refine (split_any _ _ _ hs).mono ?_
 rintro e w1 ⟨⟨b, cap, rfl, hge, hcap, hS⟩, hb⟩
 have hsz1 : w.heap.size + 1 < b ∧ b < w1.heap.size := ⟨by simp at hge; omega, World.block_lt_of_cell? _ _ (hS 0 (Txt.pcs_ne _ _))⟩
 have H0 : ∃ o : Bool, o = Txt.opn f ∧ FInv w w1 w1.heap.size b o (.slice none 0 0) (Txt.pcs 44 f) 0 [] := by
  refine ⟨_, ho.out, ?_, ?_, ?_, ?_, ?_, ?_, ?_, hS, World.ownsRow_nil _ _ _ _, ?_, by omega, by omega, by omega, Nat.le_refl _⟩
  ·exact cell_later hb (by simp [go_sem])
  ·exact cell_later hb (by simp [go_sem])
  ·exact cell_later hb (by simp [go_sem])
  ·exact cell_later hb (by simp [go_sem])
  ·exact (hb.frozen (by simp; omega)).trans (by simp [go_sem])
  ·exact (hb.frozen (by simp; omega)).trans (by simp [go_sem])
  ·exact (hb.frozen (by simp)).trans (by simp [go_sem])
  ·exact ((below_alloc w _).alloc (by simp) _).trans (hb.mono (by simp; omega))
 clear hb hS hge ho
 go_wp2_with fail
 go_loopw [10] (fun x wr => ∃ (k : Nat) (o : Bool) (v : Value), k ≤ (Txt.pcs 44 f).length ∧ x = .int .i64 k ∧ o = Txt.opn f ∧ (∀ j (hj : j < (Txt.pcs 44 f).length), j < k → Txt.spK l g (Txt.pcs 44 f)[j] = true) ∧ FInv w wr w1.heap.size b o v (Txt.pcs 44 f) k (((Txt.pcs 44 f).take k).flatMap (pc l g))) (fun x _ => (Txt.pcs 44 f).length - (intOf x).toNat)
 case atStart =>
  obtain ⟨o, h1, h2⟩ := H0
  exact ⟨0, o, _, Nat.zero_le _, rfl, h1, fun j _ h => by omega, h2⟩
 case round =>
  clear H0
  obtain ⟨k, o, v, hk, rfl, ho, hall, HI⟩ := hrel
  have HO : Hid (o = Txt.opn f) := ho
  have HA : Hid (∀ j (hj : j < (Txt.pcs 44 f).length), j < k → Txt.spK l g (Txt.pcs 44 f)[j] = true) := hall
  clear hall ho
  by_cases hlt : k < (Txt.pcs 44 f).length
  ·have hcell := HI.strs k hlt
   have hsz : Hid ((Txt.pcs 44 f)[k].size ≤ 300) := Txt.pcs_sz hs k hlt
   go_wp2_with fail
   refine (readPart_any _ _ _ _ hsz.out l1 l2 g1 g2).mono ?_
   rintro e w2 ⟨hR, hb2⟩
   have HI2 := HI.below hb2
   clear HI hb2 hcell
   have c1 := HI2.c1
   have r0 := HI2.r0
   have r1 := HI2.r1
   have f0 := HI2.f0
   have f1 := HI2.f1
   have f2 := HI2.f2
   have hz : w.heap.size + 1 < w2.heap.size := by have := HI2.hB; have := HI2.hbase; omega
   have hz' : w.heap.size < w2.heap.size := by omega
   rcases hR with ⟨kk, rfl⟩ | ⟨kk, rfl⟩
   ·have KK : Hid (Txt.spK l g (Txt.pcs 44 f)[k] = true) := kk
    clear kk
    have hL300 : k ≤ 301 := by omega
    have HB2 : Hid (w1.heap.size ≤ w2.heap.size) := HI2.hbase
    go_wp2_with (at_builtin; refine wpList_append_lies _ rfl (.tmp 44) (.tmp 46) 185 rfl w1.heap.size 266 i0 (.agg #[.int .i64 0, .int .i64 0, .int .i64 0]) 3 24 Tryz.underlying185 hi hz0 hz1 hz2 rfl (by decide) _ _ _ rfl ((HI2.own.alloc _).alloc _) ⟨w2.heap.size + 1, 0, none⟩ 1 1 (pc l g (Txt.pcs 44 f)[k]) rfl rfl ?c1 ?c2 (by decide) ?c3 ?c4 ?c5 _ rfl ?_)
    case c1 =>
     intro j u hj
     match j, hj with
     | 0, hj => simp [pc] at hj; subst hj; simp [Addr.add, go_sem]
     | 1, hj => simp [pc] at hj; subst hj; simp [Addr.add, go_sem]
     | 2, hj => simp [pc] at hj; subst hj; simp [Addr.add, go_sem]
    case c2 => intro u hu; simp [pc] at hu; rcases hu with rfl | rfl | rfl <;> rfl
    case c3 => unfold maxLen; omega
    case c4 => omega
    case c5 => have := HB2.out; simp; omega
    ·intro g' cap' w3 hown' hgrow _ hlt'
     have HI3 := (HI2.below (below_alloc w2 (.cells #[.int .i64 (Txt.spA l (Txt.pcs 44 f)[k]), .int .i64 (Txt.spB g (Txt.pcs 44 f)[k]), .int .i64 (Txt.spS (Txt.pcs 44 f)[k])] 266))).below (below_alloc _ (.cells #[.int .i64 (Txt.spA l (Txt.pcs 44 f)[k]), .int .i64 (Txt.spB g (Txt.pcs 44 f)[k]), .int .i64 (Txt.spS (Txt.pcs 44 f)[k])] 266))
     have HF := HI3.far hgrow
     have HI4 := HI3.app hgrow hown'
     rw [← take_pc l g _ k hlt] at HI4
     have d1 : w3.cell? ⟨w.heap.size + 1, 1, none⟩ = some v := (HF.cell (by have := HI3.hB; simp; omega)).trans HI3.c1
     have d2 : w3.frozen? ⟨w.heap.size + 1, 1, none⟩ = false := (HF.frozen (by have := HI3.hB; simp; omega)).trans HI3.f2
     clear hown' hgrow HI2 HI3 HF c1 r0 r1 f0 f1 f2
     go_wp2_with fail
     go_roundw
     case rel =>
      refine ⟨k + 1, o, _, by omega, by go_num, HO.out, fun j hj h => ?_, HI4⟩
      by_cases q : j = k
      ·subst q; exact KK.out
      ·exact HA.out j hj (by omega)
     case measure => simp [intOf]; omega
   ·have KK : Hid (Txt.fldB l g f = false) := Txt.fldB_no hlt kk
    have BB : Hid (Below w.heap.size w w2) := HI2.bel
    clear kk HI2
    go_wp2_with fail
    exact bodyPost_ret (v := .tuple #[.agg #[.bool false, .slice none 0 0], .bool false]) (by simp [results, Tryz.results188, go_sem, r0, r1, hz']) rfl ⟨Or.inr ⟨KK.out, rfl⟩, by repeat (first | exact BB.out | refine Below.setCell ?_ (by simp) _ | refine Below.alloc ?_ (by first | (simp; done) | (simp; omega)) _)⟩
  ·obtain rfl : k = (Txt.pcs 44 f).length := by omega
   have KK : Hid (Txt.fldB l g f = true) := Txt.fldB_yes (fun j hj => HA.out j hj hj)
   have hown := HI.own
   rw [List.take_length] at hown
   obtain ⟨g', cap', hv, hgg, _⟩ := hown.form (Txt.pcs_ne _ _)
   subst hv
   have hP : Hid (PartsAt wr g' l g (Txt.pcs 44 f)) := parts_of_own hown rfl
   have hc' : Hid ((Txt.pcs 44 f).length ≤ cap') := by
    rcases hown.2 with ⟨h, _⟩ | ⟨g2, cap2, cur, h, _, _, h2, _⟩
    ·cases h
    ·cases h; exact h2
   have c0 := HI.c0
   have c1 := HI.c1
   have r0 := HI.r0
   have r1 := HI.r1
   have f0 := HI.f0
   have f1 := HI.f1
   have BB : Hid (Below w.heap.size w wr) := HI.bel
   have hne : Hid (w.heap.size < g') := by have := HI.hB; unfold Hid; omega
   have HOO := HO.out
   subst HOO
   clear HI hown HO
   go_wp2_with fail
   refine bodyPost_ret (v := .tuple #[.agg #[.bool (Txt.opn f), .slice (some ⟨g', 0, none⟩) (Txt.pcs 44 f).length cap'], .bool true]) (by simp [results, Tryz.results188, go_sem, r0, r1]) rfl ⟨Or.inl ⟨KK.out, g', cap', rfl, Nat.le_of_lt hne.out, hc'.out, ?_⟩, by repeat (first | exact BB.out | refine Below.setCell ?_ (by simp) _)⟩
   have ne := hne.out
   intro j hj
   obtain ⟨p0, p1, p2⟩ := hP.out j hj
   refine ⟨?_, ?_, ?_⟩
   ·rw [World.cell?_setCell_other _ _ _ _ (by first | (simp; done) | (simp; omega)), World.cell?_setCell_other _ _ _ _ (by first | (simp; done) | (simp; omega))]; exact p0
   ·rw [World.cell?_setCell_other _ _ _ _ (by first | (simp; done) | (simp; omega)), World.cell?_setCell_other _ _ _ _ (by first | (simp; done) | (simp; omega))]; exact p1
   ·rw [World.cell?_setCell_other _ _ _ _ (by first | (simp; done) | (simp; omega)), World.cell?_setCell_other _ _ _ _ (by first | (simp; done) | (simp; omega))]; exact p2

set_option maxHeartbeats 1000000 in
theorem readField_b (f : ByteArray) (l g : Int) (w : World) (hs : f.size ≤ 300) (l1 : 0 ≤ l) (l2 : l ≤ 1) (g1 : 6 ≤ g) (g2 : g ≤ 59) (hf0 : f.size = 0) :
 Calls Tryz.prog 188 #[.string f, .int .i64 l, .int .i64 g] w fun e w' => FieldR l g f w.heap.size w' e ∧ Below w.heap.size w w' := by
 obtain ⟨i0, hi, hz0, hz1, hz2⟩ := info_parts infoPart
 have hlen := Txt.pcs_len 44 f
 have ho : Hid (false = Txt.opn f) := (Txt.opn_nil hf0).symm
 go_enter Tryz.func188, Tryz.ntmps188
 go_wp2_with fail
 refine (split_any _ _ _ hs).mono ?_
 rintro e w1 ⟨⟨b, cap, rfl, hge, hcap, hS⟩, hb⟩
 have hsz1 : w.heap.size + 1 < b ∧ b < w1.heap.size := ⟨by simp at hge; omega, World.block_lt_of_cell? _ _ (hS 0 (Txt.pcs_ne _ _))⟩
 have H0 : ∃ o : Bool, o = Txt.opn f ∧ FInv w w1 w1.heap.size b o (.slice none 0 0) (Txt.pcs 44 f) 0 [] := by
  refine ⟨_, ho.out, ?_, ?_, ?_, ?_, ?_, ?_, ?_, hS, World.ownsRow_nil _ _ _ _, ?_, by omega, by omega, by omega, Nat.le_refl _⟩
  ·exact cell_later hb (by simp [go_sem])
  ·exact cell_later hb (by simp [go_sem])
  ·exact cell_later hb (by simp [go_sem])
  ·exact cell_later hb (by simp [go_sem])
  ·exact (hb.frozen (by simp; omega)).trans (by simp [go_sem])
  ·exact (hb.frozen (by simp; omega)).trans (by simp [go_sem])
  ·exact (hb.frozen (by simp)).trans (by simp [go_sem])
  ·exact ((below_alloc w _).alloc (by simp) _).trans (hb.mono (by simp; omega))
 clear hb hS hge ho
 go_wp2_with fail
 go_loopw [10] (fun x wr => ∃ (k : Nat) (o : Bool) (v : Value), k ≤ (Txt.pcs 44 f).length ∧ x = .int .i64 k ∧ o = Txt.opn f ∧ (∀ j (hj : j < (Txt.pcs 44 f).length), j < k → Txt.spK l g (Txt.pcs 44 f)[j] = true) ∧ FInv w wr w1.heap.size b o v (Txt.pcs 44 f) k (((Txt.pcs 44 f).take k).flatMap (pc l g))) (fun x _ => (Txt.pcs 44 f).length - (intOf x).toNat)
 case atStart =>
  obtain ⟨o, h1, h2⟩ := H0
  exact ⟨0, o, _, Nat.zero_le _, rfl, h1, fun j _ h => by omega, h2⟩
 case round =>
  clear H0
  obtain ⟨k, o, v, hk, rfl, ho, hall, HI⟩ := hrel
  have HO : Hid (o = Txt.opn f) := ho
  have HA : Hid (∀ j (hj : j < (Txt.pcs 44 f).length), j < k → Txt.spK l g (Txt.pcs 44 f)[j] = true) := hall
  clear hall ho
  by_cases hlt : k < (Txt.pcs 44 f).length
  ·have hcell := HI.strs k hlt
   have hsz : Hid ((Txt.pcs 44 f)[k].size ≤ 300) := Txt.pcs_sz hs k hlt
   go_wp2_with fail
   refine (readPart_any _ _ _ _ hsz.out l1 l2 g1 g2).mono ?_
   rintro e w2 ⟨hR, hb2⟩
   have HI2 := HI.below hb2
   clear HI hb2 hcell
   have c1 := HI2.c1
   have r0 := HI2.r0
   have r1 := HI2.r1
   have f0 := HI2.f0
   have f1 := HI2.f1
   have f2 := HI2.f2
   have hz : w.heap.size + 1 < w2.heap.size := by have := HI2.hB; have := HI2.hbase; omega
   have hz' : w.heap.size < w2.heap.size := by omega
   rcases hR with ⟨kk, rfl⟩ | ⟨kk, rfl⟩
   ·have KK : Hid (Txt.spK l g (Txt.pcs 44 f)[k] = true) := kk
    clear kk
    have hL300 : k ≤ 301 := by omega
    have HB2 : Hid (w1.heap.size ≤ w2.heap.size) := HI2.hbase
    go_wp2_with (at_builtin; refine wpList_append_lies _ rfl (.tmp 44) (.tmp 46) 185 rfl w1.heap.size 266 i0 (.agg #[.int .i64 0, .int .i64 0, .int .i64 0]) 3 24 Tryz.underlying185 hi hz0 hz1 hz2 rfl (by decide) _ _ _ rfl ((HI2.own.alloc _).alloc _) ⟨w2.heap.size + 1, 0, none⟩ 1 1 (pc l g (Txt.pcs 44 f)[k]) rfl rfl ?c1 ?c2 (by decide) ?c3 ?c4 ?c5 _ rfl ?_)
    case c1 =>
     intro j u hj
     match j, hj with
     | 0, hj => simp [pc] at hj; subst hj; simp [Addr.add, go_sem]
     | 1, hj => simp [pc] at hj; subst hj; simp [Addr.add, go_sem]
     | 2, hj => simp [pc] at hj; subst hj; simp [Addr.add, go_sem]
    case c2 => intro u hu; simp [pc] at hu; rcases hu with rfl | rfl | rfl <;> rfl
    case c3 => unfold maxLen; omega
    case c4 => omega
    case c5 => have := HB2.out; simp; omega
    ·intro g' cap' w3 hown' hgrow _ hlt'
     have HI3 := (HI2.below (below_alloc w2 (.cells #[.int .i64 (Txt.spA l (Txt.pcs 44 f)[k]), .int .i64 (Txt.spB g (Txt.pcs 44 f)[k]), .int .i64 (Txt.spS (Txt.pcs 44 f)[k])] 266))).below (below_alloc _ (.cells #[.int .i64 (Txt.spA l (Txt.pcs 44 f)[k]), .int .i64 (Txt.spB g (Txt.pcs 44 f)[k]), .int .i64 (Txt.spS (Txt.pcs 44 f)[k])] 266))
     have HF := HI3.far hgrow
     have HI4 := HI3.app hgrow hown'
     rw [← take_pc l g _ k hlt] at HI4
     have d1 : w3.cell? ⟨w.heap.size + 1, 1, none⟩ = some v := (HF.cell (by have := HI3.hB; simp; omega)).trans HI3.c1
     have d2 : w3.frozen? ⟨w.heap.size + 1, 1, none⟩ = false := (HF.frozen (by have := HI3.hB; simp; omega)).trans HI3.f2
     clear hown' hgrow HI2 HI3 HF c1 r0 r1 f0 f1 f2
     go_wp2_with fail
     go_roundw
     case rel =>
      refine ⟨k + 1, o, _, by omega, by go_num, HO.out, fun j hj h => ?_, HI4⟩
      by_cases q : j = k
      ·subst q; exact KK.out
      ·exact HA.out j hj (by omega)
     case measure => simp [intOf]; omega
   ·have KK : Hid (Txt.fldB l g f = false) := Txt.fldB_no hlt kk
    have BB : Hid (Below w.heap.size w w2) := HI2.bel
    clear kk HI2
    go_wp2_with fail
    exact bodyPost_ret (v := .tuple #[.agg #[.bool false, .slice none 0 0], .bool false]) (by simp [results, Tryz.results188, go_sem, r0, r1, hz']) rfl ⟨Or.inr ⟨KK.out, rfl⟩, by repeat (first | exact BB.out | refine Below.setCell ?_ (by simp) _ | refine Below.alloc ?_ (by first | (simp; done) | (simp; omega)) _)⟩
  ·obtain rfl : k = (Txt.pcs 44 f).length := by omega
   have KK : Hid (Txt.fldB l g f = true) := Txt.fldB_yes (fun j hj => HA.out j hj hj)
   have hown := HI.own
   rw [List.take_length] at hown
   obtain ⟨g', cap', hv, hgg, _⟩ := hown.form (Txt.pcs_ne _ _)
   subst hv
   have hP : Hid (PartsAt wr g' l g (Txt.pcs 44 f)) := parts_of_own hown rfl
   have hc' : Hid ((Txt.pcs 44 f).length ≤ cap') := by
    rcases hown.2 with ⟨h, _⟩ | ⟨g2, cap2, cur, h, _, _, h2, _⟩
    ·cases h
    ·cases h; exact h2
   have c0 := HI.c0
   have c1 := HI.c1
   have r0 := HI.r0
   have r1 := HI.r1
   have f0 := HI.f0
   have f1 := HI.f1
   have BB : Hid (Below w.heap.size w wr) := HI.bel
   have hne : Hid (w.heap.size < g') := by have := HI.hB; unfold Hid; omega
   have HOO := HO.out
   subst HOO
   clear HI hown HO
   go_wp2_with fail
   refine bodyPost_ret (v := .tuple #[.agg #[.bool (Txt.opn f), .slice (some ⟨g', 0, none⟩) (Txt.pcs 44 f).length cap'], .bool true]) (by simp [results, Tryz.results188, go_sem, r0, r1]) rfl ⟨Or.inl ⟨KK.out, g', cap', rfl, Nat.le_of_lt hne.out, hc'.out, ?_⟩, by repeat (first | exact BB.out | refine Below.setCell ?_ (by simp) _)⟩
   have ne := hne.out
   intro j hj
   obtain ⟨p0, p1, p2⟩ := hP.out j hj
   refine ⟨?_, ?_, ?_⟩
   ·rw [World.cell?_setCell_other _ _ _ _ (by first | (simp; done) | (simp; omega)), World.cell?_setCell_other _ _ _ _ (by first | (simp; done) | (simp; omega))]; exact p0
   ·rw [World.cell?_setCell_other _ _ _ _ (by first | (simp; done) | (simp; omega)), World.cell?_setCell_other _ _ _ _ (by first | (simp; done) | (simp; omega))]; exact p1
   ·rw [World.cell?_setCell_other _ _ _ _ (by first | (simp; done) | (simp; omega)), World.cell?_setCell_other _ _ _ _ (by first | (simp; done) | (simp; omega))]; exact p2


theorem readField_any (f : ByteArray) (l g : Int) (w : World) (hs : f.size ≤ 300) (l1 : 0 ≤ l) (l2 : l ≤ 1) (g1 : 6 ≤ g) (g2 : g ≤ 59) :
 Calls Tryz.prog 188 #[.string f, .int .i64 l, .int .i64 g] w fun e w' => FieldR l g f w.heap.size w' e ∧ Below w.heap.size w w' := by
 by_cases h : 0 < f.size
 ·exact readField_a f l g w hs l1 l2 g1 g2 h
 ·exact readField_b f l g w hs l1 l2 g1 g2 (by omega)

/-- The same, the answer's shape first. -/
def FieldF (l g : Int) (f : ByteArray) (h : Nat) (w' : World) (o : Bool) (ad : Option Addr) (n c : Nat) (ok : Bool) : Prop :=
 (Txt.fldB l g f = true ∧ ok = true ∧ o = Txt.opn f ∧ ∃ b, ad = some ⟨b, 0, none⟩ ∧ n = (Txt.pcs 44 f).length ∧ h ≤ b ∧ (Txt.pcs 44 f).length ≤ c ∧ PartsAt w' b l g (Txt.pcs 44 f)) ∨
 (Txt.fldB l g f = false ∧ ok = false ∧ o = false ∧ ad = none ∧ n = 0 ∧ c = 0)
theorem readField_flat (f : ByteArray) (l g : Int) (w : World) (hs : f.size ≤ 300) (l1 : 0 ≤ l) (l2 : l ≤ 1) (g1 : 6 ≤ g) (g2 : g ≤ 59) :
 Calls Tryz.prog 188 #[.string f, .int .i64 l, .int .i64 g] w fun e w' => ∃ o ad n c ok, e = .returned (.tuple #[.agg #[.bool o, .slice ad n c], .bool ok]) ∧ Hid (FieldF l g f w.heap.size w' o ad n c ok) ∧ Below w.heap.size w w' := by
 refine (readField_any f l g w hs l1 l2 g1 g2).mono ?_
 rintro e w' ⟨⟨k, b, cap, rfl, h1, h2, h3⟩ | ⟨k, rfl⟩, hb⟩
 ·exact ⟨_, _, _, _, _, rfl, Or.inl ⟨k, rfl, rfl, b, rfl, rfl, h1, h2, h3⟩, hb⟩
 ·exact ⟨_, _, _, _, _, rfl, Or.inr ⟨k, rfl, rfl, rfl, rfl, rfl⟩, hb⟩
end Go.Proofs.YtdajolpoiffimaaGreatDoor

namespace Go.Proofs.YtdajolpoiffimaaGreatDoor
open Go.RowKit

attribute [local go_sem ↓] Go.wp_at_zero Go.wp_at_succ

/-- The bounds of the fields lie in memory. -/
def TabLH (w : World) : Prop := ∀ j : Nat, j < 5 → w.cell? ⟨0, j, none⟩ = some (.int .i64 (lo j)) ∧ w.cell? ⟨1, j, none⟩ = some (.int .i64 (hi j))
theorem TabLH.later {w w' : World} (h : TabLH w) (hb : Below w.heap.size w w') : TabLH w' := fun j hj => ⟨cell_later hb (h j hj).1, cell_later hb (h j hj).2⟩
/-- A field's slice. -/
def fv (s : ByteArray) (bb cc : Nat → Nat) (i : Nat) : Value := .slice (some ⟨bb i, 0, none⟩) (Txt.pcs 44 (pt s i)).length (cc i)

/-- What a cell of an empty line holds. -/
def zc : Nat → Value
 | 0 => .bool false | 2 => .bool false | 4 => .bool false | 6 => .bool false | 8 => .bool false | 10 => .bool false
 | 11 => .int .u8 0 | 12 => .int .i64 0 | _ => .slice none 0 0
/-- What holds while a line is read. -/
structure LInv (w wr : World) (b LB : Nat) (s : ByteArray) (k : Nat) (bb cc : Nat → Nat) : Prop where
 strs : StrsAt wr b (Txt.pcs 32 s)
 tabs : TabLH wr
 res : ∀ j, j < 14 → wr.cell? ⟨w.heap.size, j, none⟩ = some (zc j) ∧ wr.frozen? ⟨w.heap.size, j, none⟩ = false
 ln1 : ∀ j, j < k → wr.cell? ⟨LB, j * 2, none⟩ = some (.bool (Txt.opn (pt s j))) ∧ wr.cell? ⟨LB, j * 2 + 1, none⟩ = some (fv s bb cc j)
 ln2 : ∀ j, k ≤ j → j < 5 → wr.cell? ⟨LB, j * 2, none⟩ = some (.bool false) ∧ wr.cell? ⟨LB, j * 2 + 1, none⟩ = some (.slice none 0 0)
 ln3 : ∀ j, 10 ≤ j → j < 14 → wr.cell? ⟨LB, j, none⟩ = some (zc j)
 lnf : ∀ j, j < 14 → wr.frozen? ⟨LB, j, none⟩ = false
 prt : ∀ j : Nat, j < k → LB < bb j ∧ (Txt.pcs 44 (pt s j)).length ≤ cc j ∧ PartsAt wr (bb j) (lo j) (hi j) (Txt.pcs 44 (pt s j))
 bel : Below w.heap.size w wr
 hR : w.heap.size < b
 hb : b < LB
 hL : LB < wr.heap.size
 h2 : 0 < w.heap.size ∧ 1 < w.heap.size
theorem LInv.below {w wr w' : World} {b LB k : Nat} {s : ByteArray} {bb cc : Nat → Nat} (h : LInv w wr b LB s k bb cc) (q : Below wr.heap.size wr w') : LInv w w' b LB s k bb cc := by
 have h1 := h.hR; have h3 := h.hb; have h4 := h.hL; have h5 := h.bel.size
 exact ⟨h.strs.later q, h.tabs.later q, fun j hj => ⟨cell_later q (h.res j hj).1, (q.frozen (by simp; omega)).trans (h.res j hj).2⟩,
  fun j hj => ⟨cell_later q (h.ln1 j hj).1, cell_later q (h.ln1 j hj).2⟩, fun j h6 hj => ⟨cell_later q (h.ln2 j h6 hj).1, cell_later q (h.ln2 j h6 hj).2⟩, fun j h6 hj => cell_later q (h.ln3 j h6 hj),
  fun j hj => (q.frozen (by simpa using h4)).trans (h.lnf j hj), fun j hj => ⟨(h.prt j hj).1, (h.prt j hj).2.1, (h.prt j hj).2.2.later q⟩, h.bel.trans (q.mono h5), h.hR, h.hb, Nat.lt_of_lt_of_le h4 q.size, h.h2⟩
/-- One more field is stored. -/
theorem LInv.store {w wr : World} {b LB k b' c' : Nat} {s : ByteArray} {bb cc : Nat → Nat} (h : LInv w wr b LB s k bb cc) (hk : k < 5) (hb' : LB < b') (hc' : (Txt.pcs 44 (pt s k)).length ≤ c') (hP : PartsAt wr b' (lo k) (hi k) (Txt.pcs 44 (pt s k))) :
 LInv w ((wr.setCell ⟨LB, k * 2, none⟩ (.bool (Txt.opn (pt s k)))).setCell ⟨LB, k * 2 + 1, none⟩ (.slice (some ⟨b', 0, none⟩) (Txt.pcs 44 (pt s k)).length c')) b LB s (k + 1) (fun j => if j = k then b' else bb j) (fun j => if j = k then c' else cc j) := by
 have h1 := h.hR; have h3 := h.hb; have h4 := h.hL; have h5 := h.bel.size; have h6 := h.h2
 have oth : ∀ (v1 v2 : Value) (a j : Nat) (u : Value), ¬ (a = LB ∧ (j = k * 2 ∨ j = k * 2 + 1)) → wr.cell? ⟨a, j, none⟩ = some u → ((wr.setCell ⟨LB, k * 2, none⟩ v1).setCell ⟨LB, k * 2 + 1, none⟩ v2).cell? ⟨a, j, none⟩ = some u := by
  intro v1 v2 a j u hne hc
  rw [World.cell?_setCell_other _ _ _ _ (by simp; omega), World.cell?_setCell_other _ _ _ _ (by simp; omega)]; exact hc
 have parts : ∀ (v1 v2 : Value) (x : Nat) (l g : Int) (L : List ByteArray), LB < x → PartsAt wr x l g L → PartsAt ((wr.setCell ⟨LB, k * 2, none⟩ v1).setCell ⟨LB, k * 2 + 1, none⟩ v2) x l g L := by
  intro v1 v2 x l g L hx hp j hj
  obtain ⟨p0, p1, p2⟩ := hp j hj
  exact ⟨oth _ _ _ _ _ (by omega) p0, oth _ _ _ _ _ (by omega) p1, oth _ _ _ _ _ (by omega) p2⟩
 have z := h.ln2 k (Nat.le_refl _) hk
 refine ⟨fun j hj => oth _ _ _ _ _ (by omega) (h.strs j hj), fun j hj => ⟨oth _ _ _ _ _ (by omega) (h.tabs j hj).1, oth _ _ _ _ _ (by omega) (h.tabs j hj).2⟩, ?_, ?_, ?_, fun j h6 hj => oth _ _ _ _ _ (by omega) (h.ln3 j h6 hj), ?_, ?_, ?_, h.hR, h.hb, ?_, h.h2⟩
 ·intro j hj
  exact ⟨oth _ _ _ _ _ (by omega) (h.res j hj).1, by rw [World.frozen?_setCell, World.frozen?_setCell]; exact (h.res j hj).2⟩
 ·intro j hj
  by_cases e : j = k
  ·subst e
   refine ⟨?_, ?_⟩
   ·rw [World.cell?_setCell_other _ _ _ _ (by simp)]
    exact World.cell?_setCell_same' _ _ _ (by rw [z.1]; rfl)
   ·rw [World.cell?_setCell_same' _ _ _ (by rw [World.cell?_setCell_other _ _ _ _ (by simp), z.2]; rfl)]
    simp [fv]
  ·have hj' : j < k := by omega
   refine ⟨oth _ _ _ _ _ (by omega) (h.ln1 j hj').1, ?_⟩
   have : fv s (fun j => if j = k then b' else bb j) (fun j => if j = k then c' else cc j) j = fv s bb cc j := by simp [fv, e]
   rw [this]
   exact oth _ _ _ _ _ (by omega) (h.ln1 j hj').2
 ·intro j h7 hj
  exact ⟨oth _ _ _ _ _ (by omega) (h.ln2 j (by omega) hj).1, oth _ _ _ _ _ (by omega) (h.ln2 j (by omega) hj).2⟩
 ·intro j hj
  rw [World.frozen?_setCell, World.frozen?_setCell]; exact h.lnf j hj
 ·intro j hj
  by_cases e : j = k
  ·subst e
   simp only [if_true]
   exact ⟨hb', hc', parts _ _ _ _ _ _ hb' hP⟩
  ·have hj' : j < k := by omega
   simp only [e, if_false]
   exact ⟨(h.prt j hj').1, (h.prt j hj').2.1, parts _ _ _ _ _ _ (h.prt j hj').1 (h.prt j hj').2.2⟩
 ·exact (h.bel.setCell (by simp; omega) _).setCell (by simp; omega) _
 ·simp [World.setCell]; omega

/-- A step's cells. -/
def spC (x : ByteArray) : List Value := [.bool (sayB x), .string (x.extract 1 x.size)]
theorem spC_one (x : ByteArray) : ∀ u ∈ spC x, u.oneCell' = true := by intro u hu; simp [spC] at hu; rcases hu with rfl | rfl <;> rfl
/-- The steps of a line. -/
def stps (s : ByteArray) : List ByteArray := (Txt.pcs 32 s).drop 6
theorem stps_len (s : ByteArray) : (stps s).length = (Txt.pcs 32 s).length - 6 := by simp [stps]
theorem stps_at {s : ByteArray} {n : Nat} (h : n < (stps s).length) : (stps s)[n] = (Txt.pcs 32 s)[6 + n]'(by rw [stps_len] at h; omega) := by simp [stps]
theorem info_step : (Tryz.prog.info? 235).map (fun i => (i.zero, i.size, i.bytes)) = some (some (.agg #[.bool false, .string ByteArray.empty]), 2, 24) := by kernel_rfl
/-- What holds while the steps are read. -/
structure SInv (w wr : World) (b LB base : Nat) (s : ByteArray) (n : Nat) (bb cc : Nat → Nat) (v : Value) : Prop where
 strs : StrsAt wr b (Txt.pcs 32 s)
 res : ∀ j, j < 14 → wr.cell? ⟨w.heap.size, j, none⟩ = some (zc j) ∧ wr.frozen? ⟨w.heap.size, j, none⟩ = false
 ln1 : ∀ j, j < 5 → wr.cell? ⟨LB, j * 2, none⟩ = some (.bool (Txt.opn (pt s j))) ∧ wr.cell? ⟨LB, j * 2 + 1, none⟩ = some (fv s bb cc j)
 o0 : wr.cell? ⟨LB, 10, none⟩ = some (.bool (obt (pt s 5) 0 == 120))
 o1 : wr.cell? ⟨LB, 11, none⟩ = some (.int .u8 (obt (pt s 5) 1))
 o2 : wr.cell? ⟨LB, 12, none⟩ = some (.int .i64 (obt (pt s 5) 2 - 48))
 o3 : wr.cell? ⟨LB, 13, none⟩ = some v
 lnf : ∀ j, j < 14 → wr.frozen? ⟨LB, j, none⟩ = false
 prt : ∀ j : Nat, j < 5 → LB < bb j ∧ bb j < base ∧ (Txt.pcs 44 (pt s j)).length ≤ cc j ∧ PartsAt wr (bb j) (lo j) (hi j) (Txt.pcs 44 (pt s j))
 own : wr.ownsRow base 235 2 v n (((stps s).take n).flatMap spC)
 bel : Below w.heap.size w wr
 hR : w.heap.size < b
 hb : b < LB
 hL : LB < base
 hbase : base ≤ wr.heap.size
theorem SInv.below {w wr w' : World} {b LB base n : Nat} {s : ByteArray} {bb cc : Nat → Nat} {v : Value} (h : SInv w wr b LB base s n bb cc v) (q : Below wr.heap.size wr w') : SInv w w' b LB base s n bb cc v := by
 have h1 := h.hR; have h3 := h.hb; have h4 := h.hL; have h5 := h.bel.size; have h6 := h.hbase
 exact ⟨h.strs.later q, fun j hj => ⟨cell_later q (h.res j hj).1, (q.frozen (by simp; omega)).trans (h.res j hj).2⟩,
  fun j hj => ⟨cell_later q (h.ln1 j hj).1, cell_later q (h.ln1 j hj).2⟩, cell_later q h.o0, cell_later q h.o1, cell_later q h.o2, cell_later q h.o3,
  fun j hj => (q.frozen (by simp; omega)).trans (h.lnf j hj), fun j hj => ⟨(h.prt j hj).1, (h.prt j hj).2.1, (h.prt j hj).2.2.1, (h.prt j hj).2.2.2.later q⟩, own_below h.own q, h.bel.trans (q.mono h5), h.hR, h.hb, h.hL, Nat.le_trans h.hbase q.size⟩
theorem SInv.far {w wr w2 : World} {b LB base n : Nat} {s : ByteArray} {bb cc : Nat → Nat} {v : Value} (h : SInv w wr b LB base s n bb cc v) (hg : wr.grownBy w2 v.ownBlock) : Below base wr w2 :=
 (Below.refl _ _).grown hg h.hbase (fun k e => (h.own.lt k e).1)
theorem SInv.app {w wr w2 : World} {b LB base n : Nat} {s : ByteArray} {bb cc : Nat → Nat} {v v' : Value} (h : SInv w wr b LB base s n bb cc v) (hg : wr.grownBy w2 v.ownBlock) (ho : w2.ownsRow base 235 2 v' (n + 1) (((stps s).take (n + 1)).flatMap spC)) :
 SInv w (w2.setCell ⟨LB, 13, none⟩ v') b LB base s (n + 1) bb cc v' := by
 have k := h.far hg
 have h1 := h.hR; have h3 := h.hb; have h4 := h.hL; have h5 := h.bel.size; have h6 := h.hbase
 have cell : ∀ (a j : Nat) (u : Value), a < base → ¬ (a = LB ∧ j = 13) → wr.cell? ⟨a, j, none⟩ = some u → (w2.setCell ⟨LB, 13, none⟩ v').cell? ⟨a, j, none⟩ = some u := by
  intro a j u ha hne hc
  rw [World.cell?_setCell_other _ _ _ _ (by first | (simp; done) | (simp; omega)), k.cell (p := ⟨a, j, none⟩) ha]; exact hc
 have fro : ∀ (a j : Nat), a < base → (w2.setCell ⟨LB, 13, none⟩ v').frozen? ⟨a, j, none⟩ = wr.frozen? ⟨a, j, none⟩ := by
  intro a j ha
  rw [World.frozen?_setCell, k.frozen (p := ⟨a, j, none⟩) ha]
 refine ⟨fun j hj => cell _ _ _ (by omega) (by omega) (h.strs j hj), fun j hj => ⟨cell _ _ _ (by omega) (by omega) (h.res j hj).1, (fro _ _ (by omega)).trans (h.res j hj).2⟩, fun j hj => ⟨cell _ _ _ h4 (by omega) (h.ln1 j hj).1, cell _ _ _ h4 (by omega) (h.ln1 j hj).2⟩,
  cell _ _ _ h4 (by omega) h.o0, cell _ _ _ h4 (by omega) h.o1, cell _ _ _ h4 (by omega) h.o2, ?_, fun j hj => (fro _ _ h4).trans (h.lnf j hj), fun j hj => ?_, ownsRow_setCell_below ho (by simp; omega) _, ?_, h.hR, h.hb, h.hL, ?_⟩
 ·exact World.cell?_setCell_same' _ _ _ (by rw [k.cell (p := ⟨LB, 13, none⟩) (by simpa using h4), h.o3]; rfl)
 ·obtain ⟨p1, p2, p3, p4⟩ := h.prt j hj
  refine ⟨p1, p2, p3, fun t ht => ?_⟩
  obtain ⟨q0, q1, q2⟩ := p4 t ht
  exact ⟨cell _ _ _ p2 (by omega) q0, cell _ _ _ p2 (by omega) q1, cell _ _ _ p2 (by omega) q2⟩
 ·exact (h.bel.trans (k.mono (by omega))).setCell (by simp; omega) _
 ·have := hg.size; simp [World.setCell]; omega
/-- The fields are read, the options stored: the steps begin. -/
theorem SInv.start {w wr : World} {b LB : Nat} {s : ByteArray} {bb cc : Nat → Nat} (h : LInv w wr b LB s 5 bb cc) {x : Bool} {c k : Int} (hx : x = (obt (pt s 5) 0 == 120)) (hc : c = obt (pt s 5) 1) (hk : k = obt (pt s 5) 2 - 48) :
 SInv w (((wr.setCell ⟨LB, 10, none⟩ (.bool x)).setCell ⟨LB, 11, none⟩ (.int .u8 c)).setCell ⟨LB, 12, none⟩ (.int .i64 k)) b LB wr.heap.size s 0 bb cc (.slice none 0 0) := by
 subst hx hc hk
 have h1 := h.hR; have h3 := h.hb; have h4 := h.hL; have h5 := h.bel.size
 generalize hx : (Value.bool (obt (pt s 5) 0 == 120)) = u0
 generalize hc : (Value.int .u8 (obt (pt s 5) 1)) = u1
 generalize hk : (Value.int .i64 (obt (pt s 5) 2 - 48)) = u2
 have oth : ∀ (a j : Nat) (u : Value), ¬ (a = LB ∧ (j = 10 ∨ j = 11 ∨ j = 12)) → wr.cell? ⟨a, j, none⟩ = some u → (((wr.setCell ⟨LB, 10, none⟩ u0).setCell ⟨LB, 11, none⟩ u1).setCell ⟨LB, 12, none⟩ u2).cell? ⟨a, j, none⟩ = some u := by
  intro a j u hne hc
  rw [World.cell?_setCell_other _ _ _ _ (by simp; omega), World.cell?_setCell_other _ _ _ _ (by simp; omega), World.cell?_setCell_other _ _ _ _ (by simp; omega)]; exact hc
 have z10 := h.ln3 10 (by decide) (by decide)
 have z11 := h.ln3 11 (by decide) (by decide)
 have z12 := h.ln3 12 (by decide) (by decide)
 refine ⟨fun j hj => oth _ _ _ (by omega) (h.strs j hj), fun j hj => ⟨oth _ _ _ (by omega) (h.res j hj).1, by rw [World.frozen?_setCell, World.frozen?_setCell, World.frozen?_setCell]; exact (h.res j hj).2⟩,
  fun j hj => ⟨oth _ _ _ (by omega) (h.ln1 j hj).1, oth _ _ _ (by omega) (h.ln1 j hj).2⟩, ?_, ?_, ?_, oth _ _ _ (by omega) (h.ln3 13 (by decide) (by decide)), ?_, ?_, World.ownsRow_nil _ _ _ _, ?_, h.hR, h.hb, h.hL, by simp [World.setCell]⟩
 ·rw [World.cell?_setCell_other _ _ _ _ (by simp), World.cell?_setCell_other _ _ _ _ (by simp), World.cell?_setCell_same' _ _ _ (by rw [z10]; rfl), hx]
 ·rw [World.cell?_setCell_other _ _ _ _ (by simp), World.cell?_setCell_same' _ _ _ (by rw [World.cell?_setCell_other _ _ _ _ (by simp), z11]; rfl), hc]
 ·rw [World.cell?_setCell_same' _ _ _ (by rw [World.cell?_setCell_other _ _ _ _ (by simp), World.cell?_setCell_other _ _ _ _ (by simp), z12]; rfl), hk]
 ·intro j hj
  rw [World.frozen?_setCell, World.frozen?_setCell, World.frozen?_setCell]; exact h.lnf j hj
 ·intro j hj
  obtain ⟨p1, p2, p3⟩ := h.prt j hj
  refine ⟨p1, ?_, p2, fun t ht => ?_⟩
  ·exact World.block_lt_of_cell? _ _ (p3 0 (Txt.pcs_ne _ _)).1
  ·obtain ⟨q0, q1, q2⟩ := p3 t ht
   exact ⟨oth _ _ _ (by omega) q0, oth _ _ _ (by omega) q1, oth _ _ _ (by omega) q2⟩
 ·exact ((h.bel.setCell (by simp; omega) _).setCell (by simp; omega) _).setCell (by simp; omega) _

/-- What the drawn statement leaves: the field that was read, in a block q of its own. -/
def Flat (l g : Int) (f : ByteArray) (wr W : World) (q : Nat) (o : Bool) (ad : Option Addr) (n c : Nat) (ok : Bool) : Prop :=
 Below wr.heap.size wr W ∧ W.cell? ⟨q, 0, none⟩ = some (.bool o) ∧ W.cell? ⟨q, 1, none⟩ = some (.slice ad n c) ∧ FieldF l g f wr.heap.size W o ad n c ok
theorem FieldF.mono {l g : Int} {f : ByteArray} {h h' : Nat} {w w' : World} {o : Bool} {ad : Option Addr} {n c : Nat} {ok : Bool} (a : FieldF l g f h w o ad n c ok) (hh : h' ≤ h) (hp : ∀ x L, h ≤ x → PartsAt w x l g L → PartsAt w' x l g L) : FieldF l g f h' w' o ad n c ok := by
 rcases a with ⟨h1, h2, h3, b, h4, h5, h6, h7, h8⟩ | h
 ·exact Or.inl ⟨h1, h2, h3, b, h4, h5, Nat.le_trans hh h6, h7, hp _ _ h6 h8⟩
 ·exact Or.inr h
theorem flat1 {l g : Int} {f : ByteArray} {wr w2 : World} {o : Bool} {ad : Option Addr} {n c : Nat} {ok : Bool} (h : FieldF l g f wr.drew.heap.size w2 o ad n c ok) (hb : Below wr.drew.heap.size wr.drew w2) (t : TypeId) :
 Flat l g f wr (w2.alloc (.cells #[.bool o, .slice ad n c] t)) w2.heap.size o ad n c ok := by
 have hb' : Below wr.heap.size wr w2 := (Below.refl _ _).drew.trans hb
 refine ⟨hb'.alloc hb'.size _, by simp [go_sem], by simp [go_sem], ?_⟩
 exact h.mono (Nat.le_refl _) (fun x L _ hp => hp.later (below_alloc _ _))
theorem flat2 {l g : Int} {f : ByteArray} {wr w2 : World} {o : Bool} {ad : Option Addr} {n c : Nat} {ok : Bool} {t : TypeId} (h : FieldF l g f (wr.alloc (.cells #[.bool false, .slice none 0 0] t)).drew.heap.size w2 o ad n c ok)
 (hb : Below (wr.alloc (.cells #[.bool false, .slice none 0 0] t)).drew.heap.size (wr.alloc (.cells #[.bool false, .slice none 0 0] t)).drew w2) :
 Flat l g f wr ((w2.setCell ⟨wr.heap.size, 0, none⟩ (.bool o)).setCell ⟨wr.heap.size, 1, none⟩ (.slice ad n c)) wr.heap.size o ad n c ok := by
 have hz : (wr.alloc (.cells #[.bool false, .slice none 0 0] t)).drew.heap.size = wr.heap.size + 1 := by simp
 have hb' : Below wr.heap.size wr w2 := ((below_alloc wr _).drew).trans (hb.mono (by omega))
 have k0 : w2.cell? ⟨wr.heap.size, 0, none⟩ = some (.bool false) := cell_later hb (by simp [go_sem])
 have k1 : w2.cell? ⟨wr.heap.size, 1, none⟩ = some (.slice none 0 0) := cell_later hb (by simp [go_sem])
 refine ⟨(hb'.setCell (by simp) _).setCell (by simp) _, ?_, ?_, ?_⟩
 ·rw [World.cell?_setCell_other _ _ _ _ (by simp)]
  exact World.cell?_setCell_same' _ _ _ (by rw [k0]; rfl)
 ·exact World.cell?_setCell_same' _ _ _ (by rw [World.cell?_setCell_other _ _ _ _ (by simp), k1]; rfl)
 ·refine h.mono (by omega) (fun x L hx hp j hj => ?_)
  rw [hz] at hx
  obtain ⟨p0, p1, p2⟩ := hp j hj
  refine ⟨?_, ?_, ?_⟩
  ·rw [World.cell?_setCell_other _ _ _ _ (by first | (simp; done) | (simp; omega)), World.cell?_setCell_other _ _ _ _ (by first | (simp; done) | (simp; omega))]; exact p0
  ·rw [World.cell?_setCell_other _ _ _ _ (by first | (simp; done) | (simp; omega)), World.cell?_setCell_other _ _ _ _ (by first | (simp; done) | (simp; omega))]; exact p1
  ·rw [World.cell?_setCell_other _ _ _ _ (by first | (simp; done) | (simp; omega)), World.cell?_setCell_other _ _ _ _ (by first | (simp; done) | (simp; omega))]; exact p2
end Go.Proofs.YtdajolpoiffimaaGreatDoor
