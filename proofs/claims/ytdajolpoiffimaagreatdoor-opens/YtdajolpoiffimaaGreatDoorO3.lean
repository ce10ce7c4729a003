/-
  RCal, ROpt, RTxt, RLine, RChk, RDue, RefAfter, RefFind, RefOpt, RefWith, RefWith2, RefDues.
-/
import Derived.Deep.RegionHeld3
import Derived.Deep.DrawnRows
import Derived.Test.YtdajolpoiffimaaGreatDoorO1

namespace Go.Proofs.YtdajolpoiffimaaGreatDoor
open Go.RowKit

set_option maxHeartbeats 400000 in
theorem yearLong_any (y : Int) (w : World) (h1 : 0 ≤ y) (h2 : y ≤ 20000) :
 Calls Tryz.prog 229 #[.int .i64 y] w fun e w' => e = .returned (.int .i64 (365 + Cal.lp y)) ∧ w' = w := by
 by_cases a : y % 400 = 0
 ·have e : Hid (Cal.lp y = 1) := Cal.lp_yes (Or.inl a)
  go_enter Tryz.func229, Tryz.ntmps229
  go_wp2
  go_ret
  exact ⟨ret_int (by rw [e.out]; rfl), rfl⟩
 ·by_cases b : y % 4 = 0
  ·by_cases c : y % 100 = 0
   ·have e : Hid (Cal.lp y = 0) := Cal.lp_no (by omega)
    go_enter Tryz.func229, Tryz.ntmps229
    go_wp2
    go_ret
    exact ⟨ret_int (by rw [e.out]; rfl), rfl⟩
   ·have e : Hid (Cal.lp y = 1) := Cal.lp_yes (Or.inr ⟨b, c⟩)
    have c' : (y % 100 != 0) = true := by simpa using c
    go_enter Tryz.func229, Tryz.ntmps229
    go_wp2
    go_ret
    exact ⟨ret_int (by rw [e.out]; rfl), rfl⟩
  ·have e : Hid (Cal.lp y = 0) := Cal.lp_no (by omega)
   go_enter Tryz.func229, Tryz.ntmps229
   go_wp2
   go_ret
   exact ⟨ret_int (by rw [e.out]; rfl), rfl⟩

set_option maxHeartbeats 400000 in
theorem monthLong_any (y m : Int) (w : World) (h1 : 0 ≤ y) (h2 : y ≤ 20000) :
 Calls Tryz.prog 228 #[.int .i64 y, .int .i64 m] w fun e w' => e = .returned (.int .i64 (Cal.dim y m)) ∧ w' = w := by
 have hl := Cal.lp_01 y
 by_cases a : m = 2
 ·subst a
  have e : Hid (Cal.dim y 2 = 28 + Cal.lp y) := if_pos rfl
  go_enter Tryz.func228, Tryz.ntmps228
  go_wp2_with (go_at_call 229; refine (yearLong_any _ _ (by omega) (by omega)).mono ?_; rintro e w' ⟨rfl, rfl⟩)
  go_ret
  exact ⟨ret_int (by rw [e.out]; omega), rfl⟩
 ·by_cases b : m = 4 ∨ m = 6 ∨ m = 9 ∨ m = 11
  ·have e : Hid (Cal.dim y m = 30) := by unfold Hid Cal.dim; rw [if_neg a, if_pos b]
   clear a hl
   rcases b with rfl | rfl | rfl | rfl
   all_goals
    go_enter Tryz.func228, Tryz.ntmps228
    go_wp2_with fail
    go_ret
    exact ⟨ret_int e.out.symm, rfl⟩
  ·have e : Hid (Cal.dim y m = 31) := by unfold Hid Cal.dim; rw [if_neg a, if_neg b]
   have b1 : ¬ m = 4 := by omega
   have b2 : ¬ m = 6 := by omega
   have b3 : ¬ m = 9 := by omega
   have b4 : ¬ m = 11 := by omega
   clear b hl
   go_enter Tryz.func228, Tryz.ntmps228
   go_wp2_with fail
   go_ret
   exact ⟨ret_int e.out.symm, rfl⟩
set_option maxHeartbeats 400000 in
theorem isMinute_any (m : Int) (w : World) :
 Calls Tryz.prog 135 #[.int .i64 m] w fun e w' => e = .returned (.bool (minB m)) ∧ w' = w := by
 by_cases a : 0 ≤ m
 ·by_cases b : m ≤ 4223371679
  ·have e : Hid (minB m = true) := minB_yes a b
   go_enter Tryz.func135, Tryz.ntmps135
   go_wp2_with fail
   go_ret
   exact ⟨by rw [e.out]; rfl, rfl⟩
  ·have e : Hid (minB m = false) := minB_no (by omega)
   go_enter Tryz.func135, Tryz.ntmps135
   go_wp2_with fail
   go_ret
   exact ⟨by rw [e.out]; rfl, rfl⟩
 ·have e : Hid (minB m = false) := minB_no (by omega)
  go_enter Tryz.func135, Tryz.ntmps135
  go_wp2_with fail
  go_ret
  exact ⟨by rw [e.out]; rfl, rfl⟩

set_option maxHeartbeats 1000000 in
theorem day_any (n : Int) (w : World) (h1 : 0 ≤ n) (h2 : n ≤ 2932896) :
 Calls Tryz.prog 226 #[.int .i64 n] w fun e w' => (∃ y mo d : Int, Cal.IsD n y mo d ∧ e = .returned (dateV y mo d 0 0 ((4 + n) % 7))) ∧ Below w.heap.size w w' := by
 have g0 := Cal.dby_cycle n
 go_enter Tryz.func226, Tryz.ntmps226
 go_wp2_with fail
 go_loopw [4] (fun r wr => ∃ y : Int, 1970 ≤ y ∧ y ≤ 9999 ∧ Cal.dby y ≤ n ∧ r = .int .i64 (n - Cal.dby y) ∧ wr = (w.alloc (.cells #[.int .i64 0, .int .i64 0, .int .i64 0, .int .i64 0, .int .i64 0, .int .i64 0] 227)).alloc (.cells #[.int .i64 y, .int .i64 1, .int .i64 1, .int .i64 0, .int .i64 0, .int .i64 ((4 + n) % 7)] 227)) (fun r _ => (intOf r).toNat)
 case atStart => exact ⟨_, by omega, by omega, by rw [g0]; omega, by rw [g0]; go_num, rfl⟩
 case round =>
  obtain ⟨y, hy1, hy2, hy3, rfl, rfl⟩ := hrel
  clear g0
  have DS : Hid (Cal.dby (y + 1) = Cal.dby y + 365 + Cal.lp y) := Cal.dby_succ y
  have hl := Cal.lp_01 y
  have hb := Cal.dby_bd hy1 (Int.le_trans hy2 (by omega))
  by_cases hc : 365 + Cal.lp y ≤ n - Cal.dby y
  ·have hy4 : y ≤ 9998 := by
    by_cases e : y = 9999
    ·subst e; have := DS.out; have : Cal.dby (9999 + 1) = 2932897 := Cal.dby_10000; omega
    ·omega
   go_wp2_with (go_at_call 229; refine (yearLong_any _ _ (by omega) (by omega)).mono ?_; rintro e w' ⟨rfl, rfl⟩)
   go_roundw
   case rel => exact ⟨y + 1, by omega, by omega, by rw [DS.out]; omega, by rw [DS.out]; go_num, rfl⟩
   case measure => simp [intOf]; omega
  ·go_wp2_with (go_at_call 229; refine (yearLong_any _ _ (by omega) (by omega)).mono ?_; rintro e w' ⟨rfl, rfl⟩)
   go_loopw [4] (fun r wr => ∃ mo : Int, 1 ≤ mo ∧ mo ≤ 12 ∧ Cal.cum y mo ≤ n - Cal.dby y ∧ r = .int .i64 (n - Cal.dby y - Cal.cum y mo) ∧ wr = (w.alloc (.cells #[.int .i64 0, .int .i64 0, .int .i64 0, .int .i64 0, .int .i64 0, .int .i64 0] 227)).alloc (.cells #[.int .i64 y, .int .i64 mo, .int .i64 1, .int .i64 0, .int .i64 0, .int .i64 ((4 + n) % 7)] 227)) (fun r _ => (intOf r).toNat)
   case atStart => exact ⟨1, by omega, by omega, by rw [Cal.cum_1]; omega, by rw [Cal.cum_1]; go_num, rfl⟩
   case round =>
    obtain ⟨mo, hm1, hm2, hm3, rfl, rfl⟩ := hrel
    have CS : Hid (Cal.cum y (mo + 1) = Cal.cum y mo + Cal.dim y mo) := Cal.cum_succ y mo hm1 hm2
    have C13 : Hid (Cal.cum y 13 = 365 + Cal.lp y) := Cal.cum_13 y
    have cb := Cal.cum_bd y mo
    have db := Cal.dim_lo y mo
    by_cases hd : Cal.dim y mo ≤ n - Cal.dby y - Cal.cum y mo
    ·have hm4 : mo ≤ 11 := by
      by_cases e : mo = 12
      ·subst e; have := CS.out; have := C13.out; have : Cal.cum y (12 + 1) = Cal.cum y 13 := rfl; omega
      ·omega
     go_wp2_with (go_at_call 228; refine (monthLong_any _ _ _ (by omega) (by omega)).mono ?_; rintro e w' ⟨rfl, rfl⟩)
     go_roundw
     case rel => exact ⟨mo + 1, by omega, by omega, by rw [CS.out]; omega, by rw [CS.out]; go_num, rfl⟩
     case measure => simp [intOf]; omega
    ·go_wp2_with (go_at_call 228; refine (monthLong_any _ _ _ (by omega) (by omega)).mono ?_; rintro e w' ⟨rfl, rfl⟩)
     refine bodyPost_ret (v := dateV y mo (1 + (n - Cal.dby y - Cal.cum y mo)) 0 0 ((4 + n) % 7)) (by simp [results, Tryz.results226, go_sem]) rfl
      ⟨⟨y, mo, _, ⟨hy1, hy2, hm1, hm2, by omega, by omega, by omega⟩, rfl⟩, ((Below.refl _ _).alloc (Nat.le_refl _) _).alloc (by simp) _⟩

set_option maxHeartbeats 1000000 in
theorem rdate_yes (m : Int) (w : World) (h0 : 0 ≤ m) (h1 : m ≤ 4223371679) :
 Calls Tryz.prog 215 #[.int .i64 m] w fun e w' => (∃ y mo d : Int, Cal.IsD (m / 1440) y mo d ∧ e = .returned (.tuple #[dateV y mo d (m % 1440 / 60) (m % 60) ((m / 1440 + 4) % 7), .int .i64 0])) ∧ Below w.heap.size w w' := by
 have e := minB_yes h0 h1
 go_enter Tryz.func215, Tryz.ntmps215
 go_wp2_with (first | (go_at_call 135; refine (isMinute_any _ _).mono ?_; rintro e w' ⟨rfl, rfl⟩) | (go_at_call 226; refine (day_any _ _ (by omega) (by omega)).mono ?_; rintro e w1 ⟨⟨y, mo, d, HD, rfl⟩, hb⟩; obtain ⟨hc, hf⟩ := bcell hb; have hz : w.heap.size < w1.heap.size := (by have := hb.size; simp at this; omega)))
 have E7 : (4 + m / 1440) % 7 = (m / 1440 + 4) % 7 := by omega
 refine bodyPost_ret (v := .tuple #[dateV y mo d (m % 1440 / 60) (m % 60) ((4 + m / 1440) % 7), .int .i64 0]) (by simp [results, Tryz.results215, go_sem, hc, hz]) rfl ⟨⟨y, mo, d, HD, by rw [E7]⟩, ?_⟩
 exact (((((((((Below.refl _ _).alloc (Nat.le_refl _) _).trans (hb.mono (by simp))).setCell (by simp) _).setCell (by simp) _).setCell (by simp) _).setCell (by simp) _).setCell (by simp) _).setCell (by simp) _).alloc (by simp; omega) _
end Go.Proofs.YtdajolpoiffimaaGreatDoor

namespace Go.Proofs.YtdajolpoiffimaaGreatDoor
open Go.RowKit

set_option maxHeartbeats 2000000 in
theorem risStep_any (s : ByteArray) (w : World) (hs : s.size ≤ 300) :
 Calls Tryz.prog 168 #[.string s] w fun e w' => e = .returned (.bool (Txt.stepB s)) ∧ w' = w := by
 by_cases h2 : s.size < 2
 ·have e : Hid (Txt.stepB s = false) := Txt.stepB_no (fun h => by have := h.1; omega)
  go_enter Tryz.func168, Tryz.ntmps168
  go_wp2_with fail
  go_ret
  exact ⟨ret_bool' e.out.symm, rfl⟩
 by_cases h9 : 9 < s.size
 ·have e : Hid (Txt.stepB s = false) := Txt.stepB_no (fun h => by have := h.2.1; omega)
  go_enter Tryz.func168, Tryz.ntmps168
  go_wp2_with fail
  go_ret
  exact ⟨ret_bool' e.out.symm, rfl⟩
 have h0 : 0 < s.size := by omega
 by_cases hf : (s[0].toNat : Int) = 62 ∨ (s[0].toNat : Int) = 60
 rotate_left
 ·have e : Hid (Txt.stepB s = false) := Txt.stepB_no (fun ⟨_, _, _, h, _⟩ => hf h)
  have f1 : ((s[0].toNat : Int) != 62) = true := by simp; omega
  have f2 : ((s[0].toNat : Int) != 60) = true := by simp; omega
  clear hf
  go_enter Tryz.func168, Tryz.ntmps168
  go_wp2_with fail
  go_ret
  exact ⟨ret_bool' e.out.symm, rfl⟩
 have HF : Hid ((s[0].toNat : Int) = 62 ∨ (s[0].toNat : Int) = 60) := hf
 have HE : Hid (((s[0].toNat : Int) != 62) = false ∨ (((s[0].toNat : Int) != 62) = true ∧ ((s[0].toNat : Int) != 60) = false)) := by
  unfold Hid; rcases hf with h | h
  ·left; simp [h]
  ·right; constructor <;> simp [h]
 clear hf
 rcases HE.out with f1 | ⟨f1, f2⟩
 all_goals
  clear HE
  go_enter Tryz.func168, Tryz.ntmps168
  go_wp2_with fail
  go_loop [3] (fun i => ∃ k : Nat, 1 ≤ k ∧ k ≤ s.size ∧ i = .int .i64 k ∧ ∀ j (hj : j < s.size), 1 ≤ j → j < k → Txt.wb (s[j].toNat) = true) (fun i => s.size - (intOf i).toNat)
  case atStart => exact ⟨1, Nat.le_refl _, by omega, rfl, fun j _ h h' => by omega⟩
  case round =>
   obtain ⟨k, hk1, hk, rfl, hall⟩ := hrel
   have HA : Hid (∀ j (hj : j < s.size), 1 ≤ j → j < k → Txt.wb (s[j].toNat) = true) := hall
   clear hall
   by_cases hlt : k < s.size
   ·have HN : Hid (Txt.wb (s[k].toNat) = true → ∀ j (hj : j < s.size), 1 ≤ j → j < k + 1 → Txt.wb (s[j].toNat) = true) := by
     intro hd j hj h1 h
     by_cases q : j = k
     ·subst q; exact hd
     ·exact HA.out j hj h1 (by omega)
    have HB : Hid (Txt.wb (s[k].toNat) = false → Txt.stepB s = false) := step_bad hlt hk1
    by_cases a1 : 48 ≤ (s[k].toNat : Int)
    ·by_cases a2 : (s[k].toNat : Int) ≤ 57
     ·have W : Hid (Txt.wb (s[k].toNat) = true) := Txt.wb_yes (by omega)
      go_wp2_with fail
      go_round
      case rel => exact ⟨k + 1, by omega, by omega, by go_num, HN.out W.out⟩
      case measure => simp [intOf]; omega
     ·by_cases a3 : 97 ≤ (s[k].toNat : Int)
      ·by_cases a4 : (s[k].toNat : Int) ≤ 122
       ·have W : Hid (Txt.wb (s[k].toNat) = true) := Txt.wb_yes (by omega)
        go_wp2_with fail
        go_round
        case rel => exact ⟨k + 1, by omega, by omega, by go_num, HN.out W.out⟩
        case measure => simp [intOf]; omega
       ·have e : Hid (Txt.stepB s = false) := HB.out (Txt.wb_no (by omega))
        have a5 : 65 ≤ (s[k].toNat : Int) := by omega
        have a6 : ¬ (s[k].toNat : Int) ≤ 90 := by omega
        go_wp2_with fail
        go_ret
        exact ⟨ret_bool' e.out.symm, rfl⟩
      ·by_cases a5 : 65 ≤ (s[k].toNat : Int)
       ·by_cases a6 : (s[k].toNat : Int) ≤ 90
        ·have W : Hid (Txt.wb (s[k].toNat) = true) := Txt.wb_yes (by omega)
         go_wp2_with fail
         go_round
         case rel => exact ⟨k + 1, by omega, by omega, by go_num, HN.out W.out⟩
         case measure => simp [intOf]; omega
        ·have e : Hid (Txt.stepB s = false) := HB.out (Txt.wb_no (by omega))
         go_wp2_with fail
         go_ret
         exact ⟨ret_bool' e.out.symm, rfl⟩
       ·have e : Hid (Txt.stepB s = false) := HB.out (Txt.wb_no (by omega))
        go_wp2_with fail
        go_ret
        exact ⟨ret_bool' e.out.symm, rfl⟩
    ·have e : Hid (Txt.stepB s = false) := HB.out (Txt.wb_no (by omega))
     have a3 : ¬ 97 ≤ (s[k].toNat : Int) := by omega
     have a5 : ¬ 65 ≤ (s[k].toNat : Int) := by omega
     go_wp2_with fail
     go_ret
     exact ⟨ret_bool' e.out.symm, rfl⟩
   ·have e : Hid (Txt.stepB s = true) := step_last (by omega) (by omega) (by omega) h0 HF.out HA.out
    go_wp2_with fail
    go_ret
    exact ⟨ret_bool' e.out.symm, rfl⟩
set_option maxHeartbeats 1000000 in
theorem among_any (s t : ByteArray) (w : World) (hs : s.size ≤ 300) (ht : t.size ≤ 10) :
 Calls Tryz.prog 167 #[.string s, .string t] w fun e w' => e = .returned (.bool (Txt.amgB s t)) ∧ ∃ n, w' = w.drewN n := by
 by_cases z : s.size = 1
 rotate_left
 ·have e : Hid (Txt.amgB s t = false) := Txt.amgB_no (fun h => z h.1)
  have z' : ((s.size : Int) == 1) = false := by simp; omega
  clear z
  go_enter Tryz.func167, Tryz.ntmps167
  go_wp2_with fail
  go_loop [5] (fun i => i = .int .i64 0) (fun _ => 0)
  case atStart => rfl
  case round =>
   subst hrel
   by_cases h0 : 0 < t.size
   ·go_wp2_with fail
    go_ret
    exact ⟨ret_bool' e.out.symm, 0, rfl⟩
   ·go_wp2_with fail
    go_ret
    exact ⟨ret_bool' e.out.symm, 0, rfl⟩
 have z' : ((s.size : Int) == 1) = true := by simp; omega
 have Z : Hid (s.size = 1) := z
 have i0 : 0 < s.size := by omega
 clear z
 go_enter Tryz.func167, Tryz.ntmps167
 go_wp2_with fail
 go_loopw [5] (fun i wr => ∃ k : Nat, k ≤ t.size ∧ i = .int .i64 k ∧ (∀ j (hj : j < t.size), j < k → ¬ s[0] = t[j]) ∧ ∃ n, wr = w.drewN n) (fun i _ => t.size - (intOf i).toNat)
 case atStart => exact ⟨0, Nat.zero_le _, rfl, fun j _ h => by omega, 0, rfl⟩
 case round =>
  obtain ⟨k, hk, rfl, hall, n0, rfl⟩ := hrel
  have HA : Hid (∀ j (hj : j < t.size), j < k → ¬ s[0] = t[j]) := hall
  clear hall
  by_cases hlt : k < t.size
  ·have b1 : (0 : Int) ≤ (k : Int) := by omega
   have b2 : (k : Int) < (t.size : Int) := by omega
   have b3 : (0 : Int) < (s.size : Int) := by omega
   by_cases he : s[0] = t[k]
   ·have e : Hid (Txt.amgB s t = true) := Txt.amgB_yes ⟨Z.out, k, hlt, he⟩
    have q : ((s[0].toNat : Int) == (t[k].toNat : Int)) = true := by rw [Txt.u8_eq]; exact decide_eq_true he
    clear he
    go_wp2_with fail
    go_quiet (fail)
    go_wp2_with fail
    go_ret
    exact ⟨ret_bool' e.out.symm, _, World.drewN_drewN _ _ _⟩
   ·have HE : Hid (¬ s[0] = t[k]) := he
    have q : ((s[0].toNat : Int) == (t[k].toNat : Int)) = false := by rw [Txt.u8_eq]; exact decide_eq_false he
    clear he
    go_wp2_with fail
    go_quiet (fail)
    go_wp2_with fail
    go_roundw
    case rel =>
     refine ⟨k + 1, by omega, by go_num, fun j hj h => ?_, _, rfl⟩
     by_cases q : j = k
     ·subst q; exact HE.out
     ·exact HA.out j hj (by omega)
    case measure => simp [intOf]; omega
  ·have e : Hid (Txt.amgB s t = false) := Txt.amgB_no (fun ⟨_, j, hj, h⟩ => HA.out j hj (by omega) h)
   go_wp2_with fail
   go_ret
   exact ⟨ret_bool' e.out.symm, _, rfl⟩
end Go.Proofs.YtdajolpoiffimaaGreatDoor

namespace Go.Proofs.YtdajolpoiffimaaGreatDoor
open Go.RowKit
open Txt (NoSep)

set_option maxHeartbeats 400000 in
theorem rcut_any (s : ByteArray) (c : Int) (w : World) (hs : s.size ≤ 300) :
 Calls Tryz.prog 197 #[.string s, .int .u8 c] w fun e w' => e = .returned (.tuple #[.string (Txt.cut1 c s), .string (Txt.cut2 c s), .bool (Txt.cut3 c s)]) ∧ ∃ n, w' = w.drewN n := by
 go_enter Tryz.func197, Tryz.ntmps197
 go_wp2_with fail
 go_loop [7] (fun i => ∃ k : Nat, k ≤ s.size ∧ i = .int .i64 k ∧ NoSep c s 0 k) (fun i => s.size - (intOf i).toNat)
 case atStart => exact ⟨0, Nat.zero_le _, rfl, NoSep.nil _ _ _⟩
 case round =>
  obtain ⟨k, hk, rfl, hall⟩ := hrel
  have HA : Hid (NoSep c s 0 k) := hall
  clear hall
  by_cases hlt : k < s.size
  ·cases he : ((s[k].toNat : Int) == c)
   ·have HN : Hid (NoSep c s 0 (k + 1)) := HA.out.snoc hlt he
    go_wp2_with fail
    go_round
    case rel => exact ⟨k + 1, by omega, by go_num, HN.out⟩
    case measure => simp [intOf]; omega
   ·have e : Hid (Txt.cut1 c s = s.extract 0 k ∧ Txt.cut2 c s = s.extract (k + 1) s.size ∧ Txt.cut3 c s = true) := Txt.cut_yes hlt he HA.out
    have b1 : (0 : Int) ≤ (k : Int) := by omega
    have b2 : (k : Int) ≤ (s.size : Int) := by omega
    have b3 : (k : Int) + 1 ≤ (s.size : Int) := by omega
    go_wp2_with fail
    go_quiet (fail)
    go_wp2_with fail
    go_ret3
    exact ⟨ret_three e.out, _, rfl⟩
  ·have e : Hid (Txt.cut1 c s = s ∧ Txt.cut2 c s = ByteArray.empty ∧ Txt.cut3 c s = false) := Txt.cut_no ((show k = s.size by omega) ▸ HA.out)
   go_wp2_with fail
   go_ret3
   exact ⟨ret_three e.out, 0, rfl⟩

set_option maxHeartbeats 400000 in
theorem value_any (s : ByteArray) (w : World) (hs : s.size ≤ 300) :
 Calls Tryz.prog 212 #[.string s] w fun e w' => e = .returned (.int .i64 (Txt.val s)) ∧ w' = w := by
 by_cases h1 : s.size < 1
 ·have e : Hid (Txt.val s = -1) := Txt.val_no (by omega)
  go_enter Tryz.func212, Tryz.ntmps212
  go_wp2_with fail
  go_ret
  exact ⟨ret_int' e.out.symm, rfl⟩
 by_cases h2 : 2 < s.size
 ·have e : Hid (Txt.val s = -1) := Txt.val_no (by omega)
  go_enter Tryz.func212, Tryz.ntmps212
  go_wp2_with fail
  go_ret
  exact ⟨ret_int' e.out.symm, rfl⟩
 go_enter Tryz.func212, Tryz.ntmps212
 go_wp2_with fail
 go_loop [3, 4] (fun n i => ∃ k : Nat, k ≤ s.size ∧ i = .int .i64 k ∧ n = .int .i64 (Txt.pv s k) ∧ ∀ j (hj : j < s.size), j < k → Txt.dg (s[j].toNat) = true) (fun _ i => s.size - (intOf i).toNat)
 case atStart => exact ⟨0, Nat.zero_le _, rfl, by rw [Txt.pv_0], fun j _ h => by omega⟩
 case round =>
  obtain ⟨k, hk, rfl, rfl, hall⟩ := hrel
  have HA : Hid (∀ j (hj : j < s.size), j < k → Txt.dg (s[j].toNat) = true) := hall
  clear hall
  have pb := Txt.pv_bd s k hk (by omega)
  by_cases hlt : k < s.size
  ·have ub := Txt.u8_bd s[k]
   by_cases b1 : (s[k].toNat : Int) < 48
   ·have e : Hid (Txt.val s = -1) := Txt.val_no (Or.inr (Or.inr (Txt.digs_no hlt (Txt.dg_no (Or.inl b1)))))
    go_wp2_with fail
    go_ret
    exact ⟨ret_int' e.out.symm, rfl⟩
   by_cases b2 : 57 < (s[k].toNat : Int)
   ·have e : Hid (Txt.val s = -1) := Txt.val_no (Or.inr (Or.inr (Txt.digs_no hlt (Txt.dg_no (Or.inr b2)))))
    go_wp2_with fail
    go_ret
    exact ⟨ret_int' e.out.symm, rfl⟩
   have HD : Hid (Txt.dg (s[k].toNat) = true) := Txt.dg_yes (by omega) (by omega)
   have PS : Hid (Txt.pv s (k + 1) = Txt.pv s k * 10 + ((s[k].toNat : Int) - 48)) := Txt.pv_succ s k hlt
   go_wp2_with fail
   go_round
   case rel =>
    refine ⟨k + 1, by omega, by go_num, by rw [PS.out]; go_num, fun j hj h => ?_⟩
    by_cases q : j = k
    ·subst q; exact HD.out
    ·exact HA.out j hj (by omega)
   case measure => simp [intOf]; omega
  ·obtain rfl : k = s.size := by omega
   have e : Hid (Txt.val s = Txt.pv s s.size) := Txt.val_yes (by omega) (by omega) (Txt.digs_yes (fun j hj => HA.out j hj hj))
   go_wp2_with fail
   go_ret
   exact ⟨ret_int' e.out.symm, rfl⟩
set_option maxHeartbeats 400000 in
theorem lowest_any (i : Int) (w : World) :
 Calls Tryz.prog 213 #[.int .i64 i] w fun e w' => e = .returned (.int .i64 (lo i)) ∧ w' = w := by
 by_cases a : i = 2
 ·subst a
  go_enter Tryz.func213, Tryz.ntmps213
  go_wp2_with fail
  go_ret
  exact ⟨rfl, rfl⟩
 by_cases b : i = 3
 ·subst b
  go_enter Tryz.func213, Tryz.ntmps213
  go_wp2_with fail
  go_ret
  exact ⟨rfl, rfl⟩
 have e : Hid (lo i = 0) := if_neg (by omega)
 have a' : (i == 2) = false := by simpa using a
 have b' : (i == 3) = false := by simpa using b
 go_enter Tryz.func213, Tryz.ntmps213
 go_wp2_with fail
 go_ret
 exact ⟨ret_int' e.out.symm, rfl⟩

set_option maxHeartbeats 400000 in
theorem highest_any (i : Int) (w : World) :
 Calls Tryz.prog 214 #[.int .i64 i] w fun e w' => e = .returned (.int .i64 (hi i)) ∧ w' = w := by
 by_cases h : i = 0 ∨ i = 1 ∨ i = 2 ∨ i = 3
 ·rcases h with rfl | rfl | rfl | rfl
  all_goals
   go_enter Tryz.func214, Tryz.ntmps214
   go_wp2_with fail
   go_ret
   exact ⟨rfl, rfl⟩
 have h0 : ¬ i = 0 := by omega
 have h1 : ¬ i = 1 := by omega
 have h2 : ¬ i = 2 := by omega
 have h3 : ¬ i = 3 := by omega
 have e : Hid (hi i = 6) := by unfold Hid hi; rw [if_neg h0, if_neg h1, if_neg h2, if_neg h3]
 clear h
 go_enter Tryz.func214, Tryz.ntmps214
 go_wp2_with fail
 go_ret
 exact ⟨ret_int' e.out.symm, rfl⟩

/-- What span answers. -/
def SpanR (i : Int) (p : ByteArray) (e : Ending) : Prop := ∃ a b t : Int, e = .returned (.tuple #[.int .i64 a, .int .i64 b, .int .i64 t, .bool (Txt.spK (lo i) (hi i) p)]) ∧
 (-1 ≤ a ∧ a ≤ 99 ∧ -1 ≤ b ∧ b ≤ 99 ∧ -1 ≤ t ∧ t ≤ 99) ∧ (Txt.spK (lo i) (hi i) p = true → a = Txt.spA (lo i) p ∧ b = Txt.spB (hi i) p ∧ t = Txt.spS p)
theorem span_mk {i : Int} {p : ByteArray} {a b t : Int} {r : Bool} (hA : Txt.spA (lo i) p = a) (hB : Txt.spB (hi i) p = b) (hS : Txt.spS p = t) (hK : Txt.star (Txt.cut1 47 p) = true ∨ Txt.cut3 47 p = false ∨ Txt.cut3 45 (Txt.cut1 47 p) = true)
 (hr : r = decide (1 ≤ t ∧ lo i ≤ a ∧ a ≤ b ∧ b ≤ hi i)) (bd : -1 ≤ a ∧ a ≤ 99 ∧ -1 ≤ b ∧ b ≤ 99 ∧ -1 ≤ t ∧ t ≤ 99) : SpanR i p (.returned (.tuple #[.int .i64 a, .int .i64 b, .int .i64 t, .bool r])) := by
 have e : Txt.spK (lo i) (hi i) p = r := by
  rw [hr, Txt.spK, hA, hB, hS]
  by_cases q : 1 ≤ t ∧ lo i ≤ a ∧ a ≤ b ∧ b ≤ hi i
  ·rw [decide_eq_true q]; exact decide_eq_true ⟨hK, q⟩
  ·rw [decide_eq_false q]; exact decide_eq_false (fun h => q h.2)
 exact ⟨a, b, t, by rw [e], bd, fun _ => ⟨hA.symm, hB.symm, hS.symm⟩⟩
theorem span_no {i : Int} {p : ByteArray} (h1 : Txt.star (Txt.cut1 47 p) = false) (h2 : Txt.cut3 47 p = true) (h3 : Txt.cut3 45 (Txt.cut1 47 p) = false) : SpanR i p (.returned (.tuple #[.int .i64 0, .int .i64 0, .int .i64 0, .bool false])) := by
 have e : Txt.spK (lo i) (hi i) p = false := decide_eq_false (by simp [h1, h2, h3])
 exact ⟨0, 0, 0, by rw [e], by omega, fun h => by rw [e] at h; cases h⟩

set_option maxHeartbeats 1000000 in
theorem span_a (p : ByteArray) (i : Int) (w : World) (hs : p.size ≤ 300) (h1 : Txt.star (Txt.cut1 47 p) = true) (h2 : Txt.cut3 47 p = false) :
 Calls Tryz.prog 198 #[.string p, .int .i64 i] w fun e w' => SpanR i p e ∧ ∃ n, w' = w.drewN n := by
 have hA : Hid (Txt.spA (lo i) p = lo i) := by unfold Hid; simp [Txt.spA, h1]
 have hB : Hid (Txt.spB (hi i) p = hi i) := by unfold Hid; simp [Txt.spB, h1]
 have hS : Hid (Txt.spS p = 1) := by unfold Hid; simp [Txt.spS, h2]
 have hK : Hid (Txt.star (Txt.cut1 47 p) = true ∨ Txt.cut3 47 p = false ∨ Txt.cut3 45 (Txt.cut1 47 p) = true) := by unfold Hid; simp [h1]
 have bA := lohi i
 have bB := lohi i
 have bS := Txt.val_bd (Txt.cut2 47 p)
 have hst : ((Txt.cut1 47 p).toList == [42]) = true := h1
 have s1 : Hid ((Txt.cut1 47 p).size ≤ 300) := Nat.le_trans (Txt.cut1_size _ _) hs
 have s2 : Hid ((Txt.cut2 47 p).size ≤ 300) := Nat.le_trans (Txt.cut2_size _ _) hs
 have s3 : Hid ((Txt.cut1 45 (Txt.cut1 47 p)).size ≤ 300) := Nat.le_trans (Txt.cut1_size _ _) s1.out
 have s4 : Hid ((Txt.cut2 45 (Txt.cut1 47 p)).size ≤ 300) := Nat.le_trans (Txt.cut2_size _ _) s1.out
 clear h1
 go_enter Tryz.func198, Tryz.ntmps198
 go_wp2_with fail
 refine (rcut_any _ _ _ hs).mono ?_
 rintro e w' ⟨rfl, n1, rfl⟩
 go_wp2_with fail
 refine (lowest_any _ _).mono ?_
 rintro e w' ⟨rfl, rfl⟩
 go_wp2_with fail
 refine (highest_any _ _).mono ?_
 rintro e w' ⟨rfl, rfl⟩
 have t1 : lo i ≤ hi i := by omega
 have t2 : lo i ≤ lo i := Int.le_refl _
 ·go_wp2_with (first | (go_at_call 213; refine (lowest_any _ _).mono ?_; rintro e w' ⟨rfl, rfl⟩) | (go_at_call 214; refine (highest_any _ _).mono ?_; rintro e w' ⟨rfl, rfl⟩))
  exact bodyPost_ret (v := .tuple #[.int .i64 (lo i), .int .i64 (hi i), .int .i64 (1), .bool true]) (by simp [results, Tryz.results198, go_sem] <;> omega) rfl ⟨span_mk hA.out hB.out hS.out hK.out (decide_eq_true ⟨by omega, by omega, by omega, by omega⟩).symm (by omega), ⟨n1, rfl⟩⟩

set_option maxHeartbeats 1000000 in
theorem span_b (p : ByteArray) (i : Int) (w : World) (hs : p.size ≤ 300) (h1 : Txt.star (Txt.cut1 47 p) = true) (h2 : Txt.cut3 47 p = true) :
 Calls Tryz.prog 198 #[.string p, .int .i64 i] w fun e w' => SpanR i p e ∧ ∃ n, w' = w.drewN n := by
 have hA : Hid (Txt.spA (lo i) p = lo i) := by unfold Hid; simp [Txt.spA, h1]
 have hB : Hid (Txt.spB (hi i) p = hi i) := by unfold Hid; simp [Txt.spB, h1]
 have hS : Hid (Txt.spS p = Txt.val (Txt.cut2 47 p)) := by unfold Hid; simp [Txt.spS, h2]
 have hK : Hid (Txt.star (Txt.cut1 47 p) = true ∨ Txt.cut3 47 p = false ∨ Txt.cut3 45 (Txt.cut1 47 p) = true) := by unfold Hid; simp [h1]
 have bA := lohi i
 have bB := lohi i
 have bS := Txt.val_bd (Txt.cut2 47 p)
 have hst : ((Txt.cut1 47 p).toList == [42]) = true := h1
 have s1 : Hid ((Txt.cut1 47 p).size ≤ 300) := Nat.le_trans (Txt.cut1_size _ _) hs
 have s2 : Hid ((Txt.cut2 47 p).size ≤ 300) := Nat.le_trans (Txt.cut2_size _ _) hs
 have s3 : Hid ((Txt.cut1 45 (Txt.cut1 47 p)).size ≤ 300) := Nat.le_trans (Txt.cut1_size _ _) s1.out
 have s4 : Hid ((Txt.cut2 45 (Txt.cut1 47 p)).size ≤ 300) := Nat.le_trans (Txt.cut2_size _ _) s1.out
 clear h1
 go_enter Tryz.func198, Tryz.ntmps198
 go_wp2_with fail
 refine (rcut_any _ _ _ hs).mono ?_
 rintro e w' ⟨rfl, n1, rfl⟩
 go_wp2_with fail
 refine (value_any _ _ s2.out).mono ?_
 rintro e w' ⟨rfl, rfl⟩
 go_wp2_with fail
 refine (lowest_any _ _).mono ?_
 rintro e w' ⟨rfl, rfl⟩
 go_wp2_with fail
 refine (highest_any _ _).mono ?_
 rintro e w' ⟨rfl, rfl⟩
 have t1 : lo i ≤ hi i := by omega
 have t2 : lo i ≤ lo i := Int.le_refl _
 by_cases q0 : 1 ≤ Txt.val (Txt.cut2 47 p)
 rotate_left
 ·go_wp2_with (first | (go_at_call 213; refine (lowest_any _ _).mono ?_; rintro e w' ⟨rfl, rfl⟩) | (go_at_call 214; refine (highest_any _ _).mono ?_; rintro e w' ⟨rfl, rfl⟩))
  exact bodyPost_ret (v := .tuple #[.int .i64 (lo i), .int .i64 (hi i), .int .i64 (Txt.val (Txt.cut2 47 p)), .bool false]) (by simp [results, Tryz.results198, go_sem] <;> omega) rfl ⟨span_mk hA.out hB.out hS.out hK.out (decide_eq_false (by omega)).symm (by omega), ⟨n1, rfl⟩⟩
 ·go_wp2_with (first | (go_at_call 213; refine (lowest_any _ _).mono ?_; rintro e w' ⟨rfl, rfl⟩) | (go_at_call 214; refine (highest_any _ _).mono ?_; rintro e w' ⟨rfl, rfl⟩))
  exact bodyPost_ret (v := .tuple #[.int .i64 (lo i), .int .i64 (hi i), .int .i64 (Txt.val (Txt.cut2 47 p)), .bool true]) (by simp [results, Tryz.results198, go_sem] <;> omega) rfl ⟨span_mk hA.out hB.out hS.out hK.out (decide_eq_true ⟨by omega, by omega, by omega, by omega⟩).symm (by omega), ⟨n1, rfl⟩⟩

set_option maxHeartbeats 1000000 in
theorem span_c (p : ByteArray) (i : Int) (w : World) (hs : p.size ≤ 300) (h1 : Txt.star (Txt.cut1 47 p) = false) (h2 : Txt.cut3 47 p = false) (h3 : Txt.cut3 45 (Txt.cut1 47 p) = false) :
 Calls Tryz.prog 198 #[.string p, .int .i64 i] w fun e w' => SpanR i p e ∧ ∃ n, w' = w.drewN n := by
 have hA : Hid (Txt.spA (lo i) p = Txt.val (Txt.cut1 45 (Txt.cut1 47 p))) := by unfold Hid; simp [Txt.spA, h1]
 have hB : Hid (Txt.spB (hi i) p = Txt.val (Txt.cut1 45 (Txt.cut1 47 p))) := by unfold Hid; simp [Txt.spB, h1, h3]
 have hS : Hid (Txt.spS p = 1) := by unfold Hid; simp [Txt.spS, h2]
 have hK : Hid (Txt.star (Txt.cut1 47 p) = true ∨ Txt.cut3 47 p = false ∨ Txt.cut3 45 (Txt.cut1 47 p) = true) := by unfold Hid; simp [h2]
 have bA := Txt.val_bd (Txt.cut1 45 (Txt.cut1 47 p))
 have bB := Txt.val_bd (Txt.cut1 45 (Txt.cut1 47 p))
 have bS := Txt.val_bd (Txt.cut2 47 p)
 have hst : ((Txt.cut1 47 p).toList == [42]) = false := h1
 have s1 : Hid ((Txt.cut1 47 p).size ≤ 300) := Nat.le_trans (Txt.cut1_size _ _) hs
 have s2 : Hid ((Txt.cut2 47 p).size ≤ 300) := Nat.le_trans (Txt.cut2_size _ _) hs
 have s3 : Hid ((Txt.cut1 45 (Txt.cut1 47 p)).size ≤ 300) := Nat.le_trans (Txt.cut1_size _ _) s1.out
 have s4 : Hid ((Txt.cut2 45 (Txt.cut1 47 p)).size ≤ 300) := Nat.le_trans (Txt.cut2_size _ _) s1.out
 clear h1
 go_enter Tryz.func198, Tryz.ntmps198
 go_wp2_with fail
 refine (rcut_any _ _ _ hs).mono ?_
 rintro e w' ⟨rfl, n1, rfl⟩
 go_wp2_with fail
 refine (lowest_any _ _).mono ?_
 rintro e w' ⟨rfl, rfl⟩
 go_wp2_with fail
 refine (highest_any _ _).mono ?_
 rintro e w' ⟨rfl, rfl⟩
 go_wp2_with fail
 refine (rcut_any _ _ _ s1.out).mono ?_
 rintro e w' ⟨rfl, n2, rfl⟩
 go_wp2_with fail
 refine (value_any _ _ s3.out).mono ?_
 rintro e w' ⟨rfl, rfl⟩
 by_cases q0 : lo i ≤ Txt.val (Txt.cut1 45 (Txt.cut1 47 p))
 rotate_left
 ·go_wp2_with (first | (go_at_call 213; refine (lowest_any _ _).mono ?_; rintro e w' ⟨rfl, rfl⟩) | (go_at_call 214; refine (highest_any _ _).mono ?_; rintro e w' ⟨rfl, rfl⟩))
  exact bodyPost_ret (v := .tuple #[.int .i64 (Txt.val (Txt.cut1 45 (Txt.cut1 47 p))), .int .i64 (Txt.val (Txt.cut1 45 (Txt.cut1 47 p))), .int .i64 (1), .bool false]) (by simp [results, Tryz.results198, go_sem] <;> omega) rfl ⟨span_mk hA.out hB.out hS.out hK.out (decide_eq_false (by omega)).symm (by omega), ⟨_, rfl⟩⟩
 by_cases q1 : Txt.val (Txt.cut1 45 (Txt.cut1 47 p)) ≤ hi i
 rotate_left
 ·go_wp2_with (first | (go_at_call 213; refine (lowest_any _ _).mono ?_; rintro e w' ⟨rfl, rfl⟩) | (go_at_call 214; refine (highest_any _ _).mono ?_; rintro e w' ⟨rfl, rfl⟩))
  exact bodyPost_ret (v := .tuple #[.int .i64 (Txt.val (Txt.cut1 45 (Txt.cut1 47 p))), .int .i64 (Txt.val (Txt.cut1 45 (Txt.cut1 47 p))), .int .i64 (1), .bool false]) (by simp [results, Tryz.results198, go_sem] <;> omega) rfl ⟨span_mk hA.out hB.out hS.out hK.out (decide_eq_false (by omega)).symm (by omega), ⟨_, rfl⟩⟩
 ·go_wp2_with (first | (go_at_call 213; refine (lowest_any _ _).mono ?_; rintro e w' ⟨rfl, rfl⟩) | (go_at_call 214; refine (highest_any _ _).mono ?_; rintro e w' ⟨rfl, rfl⟩))
  exact bodyPost_ret (v := .tuple #[.int .i64 (Txt.val (Txt.cut1 45 (Txt.cut1 47 p))), .int .i64 (Txt.val (Txt.cut1 45 (Txt.cut1 47 p))), .int .i64 (1), .bool true]) (by simp [results, Tryz.results198, go_sem] <;> omega) rfl ⟨span_mk hA.out hB.out hS.out hK.out (decide_eq_true ⟨by omega, by omega, by omega, by omega⟩).symm (by omega), ⟨_, rfl⟩⟩

set_option maxHeartbeats 1000000 in
theorem span_d (p : ByteArray) (i : Int) (w : World) (hs : p.size ≤ 300) (h1 : Txt.star (Txt.cut1 47 p) = false) (h2 : Txt.cut3 47 p = false) (h3 : Txt.cut3 45 (Txt.cut1 47 p) = true) :
 Calls Tryz.prog 198 #[.string p, .int .i64 i] w fun e w' => SpanR i p e ∧ ∃ n, w' = w.drewN n := by
 have hA : Hid (Txt.spA (lo i) p = Txt.val (Txt.cut1 45 (Txt.cut1 47 p))) := by unfold Hid; simp [Txt.spA, h1]
 have hB : Hid (Txt.spB (hi i) p = Txt.val (Txt.cut2 45 (Txt.cut1 47 p))) := by unfold Hid; simp [Txt.spB, h1, h3]
 have hS : Hid (Txt.spS p = 1) := by unfold Hid; simp [Txt.spS, h2]
 have hK : Hid (Txt.star (Txt.cut1 47 p) = true ∨ Txt.cut3 47 p = false ∨ Txt.cut3 45 (Txt.cut1 47 p) = true) := by unfold Hid; simp [h2]
 have bA := Txt.val_bd (Txt.cut1 45 (Txt.cut1 47 p))
 have bB := Txt.val_bd (Txt.cut2 45 (Txt.cut1 47 p))
 have bS := Txt.val_bd (Txt.cut2 47 p)
 have hst : ((Txt.cut1 47 p).toList == [42]) = false := h1
 have s1 : Hid ((Txt.cut1 47 p).size ≤ 300) := Nat.le_trans (Txt.cut1_size _ _) hs
 have s2 : Hid ((Txt.cut2 47 p).size ≤ 300) := Nat.le_trans (Txt.cut2_size _ _) hs
 have s3 : Hid ((Txt.cut1 45 (Txt.cut1 47 p)).size ≤ 300) := Nat.le_trans (Txt.cut1_size _ _) s1.out
 have s4 : Hid ((Txt.cut2 45 (Txt.cut1 47 p)).size ≤ 300) := Nat.le_trans (Txt.cut2_size _ _) s1.out
 clear h1
 go_enter Tryz.func198, Tryz.ntmps198
 go_wp2_with fail
 refine (rcut_any _ _ _ hs).mono ?_
 rintro e w' ⟨rfl, n1, rfl⟩
 go_wp2_with fail
 refine (lowest_any _ _).mono ?_
 rintro e w' ⟨rfl, rfl⟩
 go_wp2_with fail
 refine (highest_any _ _).mono ?_
 rintro e w' ⟨rfl, rfl⟩
 go_wp2_with fail
 refine (rcut_any _ _ _ s1.out).mono ?_
 rintro e w' ⟨rfl, n2, rfl⟩
 go_wp2_with fail
 refine (value_any _ _ s3.out).mono ?_
 rintro e w' ⟨rfl, rfl⟩
 go_wp2_with fail
 refine (value_any _ _ s4.out).mono ?_
 rintro e w' ⟨rfl, rfl⟩
 by_cases q0 : lo i ≤ Txt.val (Txt.cut1 45 (Txt.cut1 47 p))
 rotate_left
 ·go_wp2_with (first | (go_at_call 213; refine (lowest_any _ _).mono ?_; rintro e w' ⟨rfl, rfl⟩) | (go_at_call 214; refine (highest_any _ _).mono ?_; rintro e w' ⟨rfl, rfl⟩))
  exact bodyPost_ret (v := .tuple #[.int .i64 (Txt.val (Txt.cut1 45 (Txt.cut1 47 p))), .int .i64 (Txt.val (Txt.cut2 45 (Txt.cut1 47 p))), .int .i64 (1), .bool false]) (by simp [results, Tryz.results198, go_sem] <;> omega) rfl ⟨span_mk hA.out hB.out hS.out hK.out (decide_eq_false (by omega)).symm (by omega), ⟨_, rfl⟩⟩
 by_cases q1 : Txt.val (Txt.cut1 45 (Txt.cut1 47 p)) ≤ Txt.val (Txt.cut2 45 (Txt.cut1 47 p))
 rotate_left
 ·go_wp2_with (first | (go_at_call 213; refine (lowest_any _ _).mono ?_; rintro e w' ⟨rfl, rfl⟩) | (go_at_call 214; refine (highest_any _ _).mono ?_; rintro e w' ⟨rfl, rfl⟩))
  exact bodyPost_ret (v := .tuple #[.int .i64 (Txt.val (Txt.cut1 45 (Txt.cut1 47 p))), .int .i64 (Txt.val (Txt.cut2 45 (Txt.cut1 47 p))), .int .i64 (1), .bool false]) (by simp [results, Tryz.results198, go_sem] <;> omega) rfl ⟨span_mk hA.out hB.out hS.out hK.out (decide_eq_false (by omega)).symm (by omega), ⟨_, rfl⟩⟩
 by_cases q2 : Txt.val (Txt.cut2 45 (Txt.cut1 47 p)) ≤ hi i
 rotate_left
 ·go_wp2_with (first | (go_at_call 213; refine (lowest_any _ _).mono ?_; rintro e w' ⟨rfl, rfl⟩) | (go_at_call 214; refine (highest_any _ _).mono ?_; rintro e w' ⟨rfl, rfl⟩))
  exact bodyPost_ret (v := .tuple #[.int .i64 (Txt.val (Txt.cut1 45 (Txt.cut1 47 p))), .int .i64 (Txt.val (Txt.cut2 45 (Txt.cut1 47 p))), .int .i64 (1), .bool false]) (by simp [results, Tryz.results198, go_sem] <;> omega) rfl ⟨span_mk hA.out hB.out hS.out hK.out (decide_eq_false (by omega)).symm (by omega), ⟨_, rfl⟩⟩
 ·go_wp2_with (first | (go_at_call 213; refine (lowest_any _ _).mono ?_; rintro e w' ⟨rfl, rfl⟩) | (go_at_call 214; refine (highest_any _ _).mono ?_; rintro e w' ⟨rfl, rfl⟩))
  exact bodyPost_ret (v := .tuple #[.int .i64 (Txt.val (Txt.cut1 45 (Txt.cut1 47 p))), .int .i64 (Txt.val (Txt.cut2 45 (Txt.cut1 47 p))), .int .i64 (1), .bool true]) (by simp [results, Tryz.results198, go_sem] <;> omega) rfl ⟨span_mk hA.out hB.out hS.out hK.out (decide_eq_true ⟨by omega, by omega, by omega, by omega⟩).symm (by omega), ⟨_, rfl⟩⟩

set_option maxHeartbeats 1000000 in
theorem span_e (p : ByteArray) (i : Int) (w : World) (hs : p.size ≤ 300) (h1 : Txt.star (Txt.cut1 47 p) = false) (h2 : Txt.cut3 47 p = true) (h3 : Txt.cut3 45 (Txt.cut1 47 p) = false) :
 Calls Tryz.prog 198 #[.string p, .int .i64 i] w fun e w' => SpanR i p e ∧ ∃ n, w' = w.drewN n := by
 have hE : Hid (SpanR i p (.returned (.tuple #[.int .i64 0, .int .i64 0, .int .i64 0, .bool false]))) := span_no h1 h2 h3
 have hst : ((Txt.cut1 47 p).toList == [42]) = false := h1
 have s1 : Hid ((Txt.cut1 47 p).size ≤ 300) := Nat.le_trans (Txt.cut1_size _ _) hs
 have s2 : Hid ((Txt.cut2 47 p).size ≤ 300) := Nat.le_trans (Txt.cut2_size _ _) hs
 have s3 : Hid ((Txt.cut1 45 (Txt.cut1 47 p)).size ≤ 300) := Nat.le_trans (Txt.cut1_size _ _) s1.out
 have s4 : Hid ((Txt.cut2 45 (Txt.cut1 47 p)).size ≤ 300) := Nat.le_trans (Txt.cut2_size _ _) s1.out
 clear h1
 go_enter Tryz.func198, Tryz.ntmps198
 go_wp2_with fail
 refine (rcut_any _ _ _ hs).mono ?_
 rintro e w' ⟨rfl, n1, rfl⟩
 go_wp2_with fail
 refine (value_any _ _ s2.out).mono ?_
 rintro e w' ⟨rfl, rfl⟩
 go_wp2_with fail
 refine (lowest_any _ _).mono ?_
 rintro e w' ⟨rfl, rfl⟩
 go_wp2_with fail
 refine (highest_any _ _).mono ?_
 rintro e w' ⟨rfl, rfl⟩
 go_wp2_with fail
 refine (rcut_any _ _ _ s1.out).mono ?_
 rintro e w' ⟨rfl, n2, rfl⟩
 go_wp2_with fail
 refine (value_any _ _ s3.out).mono ?_
 rintro e w' ⟨rfl, rfl⟩
 go_wp2_with fail
 exact bodyPost_ret (v := .tuple #[.int .i64 0, .int .i64 0, .int .i64 0, .bool false]) (by simp [results, Tryz.results198, go_sem]) rfl ⟨hE.out, ⟨_, rfl⟩⟩

set_option maxHeartbeats 1000000 in
theorem span_f (p : ByteArray) (i : Int) (w : World) (hs : p.size ≤ 300) (h1 : Txt.star (Txt.cut1 47 p) = false) (h2 : Txt.cut3 47 p = true) (h3 : Txt.cut3 45 (Txt.cut1 47 p) = true) :
 Calls Tryz.prog 198 #[.string p, .int .i64 i] w fun e w' => SpanR i p e ∧ ∃ n, w' = w.drewN n := by
 have hA : Hid (Txt.spA (lo i) p = Txt.val (Txt.cut1 45 (Txt.cut1 47 p))) := by unfold Hid; simp [Txt.spA, h1]
 have hB : Hid (Txt.spB (hi i) p = Txt.val (Txt.cut2 45 (Txt.cut1 47 p))) := by unfold Hid; simp [Txt.spB, h1, h3]
 have hS : Hid (Txt.spS p = Txt.val (Txt.cut2 47 p)) := by unfold Hid; simp [Txt.spS, h2]
 have hK : Hid (Txt.star (Txt.cut1 47 p) = true ∨ Txt.cut3 47 p = false ∨ Txt.cut3 45 (Txt.cut1 47 p) = true) := by unfold Hid; simp [h3]
 have bA := Txt.val_bd (Txt.cut1 45 (Txt.cut1 47 p))
 have bB := Txt.val_bd (Txt.cut2 45 (Txt.cut1 47 p))
 have bS := Txt.val_bd (Txt.cut2 47 p)
 have hst : ((Txt.cut1 47 p).toList == [42]) = false := h1
 have s1 : Hid ((Txt.cut1 47 p).size ≤ 300) := Nat.le_trans (Txt.cut1_size _ _) hs
 have s2 : Hid ((Txt.cut2 47 p).size ≤ 300) := Nat.le_trans (Txt.cut2_size _ _) hs
 have s3 : Hid ((Txt.cut1 45 (Txt.cut1 47 p)).size ≤ 300) := Nat.le_trans (Txt.cut1_size _ _) s1.out
 have s4 : Hid ((Txt.cut2 45 (Txt.cut1 47 p)).size ≤ 300) := Nat.le_trans (Txt.cut2_size _ _) s1.out
 clear h1
 go_enter Tryz.func198, Tryz.ntmps198
 go_wp2_with fail
 refine (rcut_any _ _ _ hs).mono ?_
 rintro e w' ⟨rfl, n1, rfl⟩
 go_wp2_with fail
 refine (value_any _ _ s2.out).mono ?_
 rintro e w' ⟨rfl, rfl⟩
 go_wp2_with fail
 refine (lowest_any _ _).mono ?_
 rintro e w' ⟨rfl, rfl⟩
 go_wp2_with fail
 refine (highest_any _ _).mono ?_
 rintro e w' ⟨rfl, rfl⟩
 go_wp2_with fail
 refine (rcut_any _ _ _ s1.out).mono ?_
 rintro e w' ⟨rfl, n2, rfl⟩
 go_wp2_with fail
 refine (value_any _ _ s3.out).mono ?_
 rintro e w' ⟨rfl, rfl⟩
 go_wp2_with fail
 refine (value_any _ _ s4.out).mono ?_
 rintro e w' ⟨rfl, rfl⟩
 by_cases q0 : 1 ≤ Txt.val (Txt.cut2 47 p)
 rotate_left
 ·go_wp2_with (first | (go_at_call 213; refine (lowest_any _ _).mono ?_; rintro e w' ⟨rfl, rfl⟩) | (go_at_call 214; refine (highest_any _ _).mono ?_; rintro e w' ⟨rfl, rfl⟩))
  exact bodyPost_ret (v := .tuple #[.int .i64 (Txt.val (Txt.cut1 45 (Txt.cut1 47 p))), .int .i64 (Txt.val (Txt.cut2 45 (Txt.cut1 47 p))), .int .i64 (Txt.val (Txt.cut2 47 p)), .bool false]) (by simp [results, Tryz.results198, go_sem] <;> omega) rfl ⟨span_mk hA.out hB.out hS.out hK.out (decide_eq_false (by omega)).symm (by omega), ⟨_, rfl⟩⟩
 by_cases q1 : lo i ≤ Txt.val (Txt.cut1 45 (Txt.cut1 47 p))
 rotate_left
 ·go_wp2_with (first | (go_at_call 213; refine (lowest_any _ _).mono ?_; rintro e w' ⟨rfl, rfl⟩) | (go_at_call 214; refine (highest_any _ _).mono ?_; rintro e w' ⟨rfl, rfl⟩))
  exact bodyPost_ret (v := .tuple #[.int .i64 (Txt.val (Txt.cut1 45 (Txt.cut1 47 p))), .int .i64 (Txt.val (Txt.cut2 45 (Txt.cut1 47 p))), .int .i64 (Txt.val (Txt.cut2 47 p)), .bool false]) (by simp [results, Tryz.results198, go_sem] <;> omega) rfl ⟨span_mk hA.out hB.out hS.out hK.out (decide_eq_false (by omega)).symm (by omega), ⟨_, rfl⟩⟩
 by_cases q2 : Txt.val (Txt.cut1 45 (Txt.cut1 47 p)) ≤ Txt.val (Txt.cut2 45 (Txt.cut1 47 p))
 rotate_left
 ·go_wp2_with (first | (go_at_call 213; refine (lowest_any _ _).mono ?_; rintro e w' ⟨rfl, rfl⟩) | (go_at_call 214; refine (highest_any _ _).mono ?_; rintro e w' ⟨rfl, rfl⟩))
  exact bodyPost_ret (v := .tuple #[.int .i64 (Txt.val (Txt.cut1 45 (Txt.cut1 47 p))), .int .i64 (Txt.val (Txt.cut2 45 (Txt.cut1 47 p))), .int .i64 (Txt.val (Txt.cut2 47 p)), .bool false]) (by simp [results, Tryz.results198, go_sem] <;> omega) rfl ⟨span_mk hA.out hB.out hS.out hK.out (decide_eq_false (by omega)).symm (by omega), ⟨_, rfl⟩⟩
 by_cases q3 : Txt.val (Txt.cut2 45 (Txt.cut1 47 p)) ≤ hi i
 rotate_left
 ·go_wp2_with (first | (go_at_call 213; refine (lowest_any _ _).mono ?_; rintro e w' ⟨rfl, rfl⟩) | (go_at_call 214; refine (highest_any _ _).mono ?_; rintro e w' ⟨rfl, rfl⟩))
  exact bodyPost_ret (v := .tuple #[.int .i64 (Txt.val (Txt.cut1 45 (Txt.cut1 47 p))), .int .i64 (Txt.val (Txt.cut2 45 (Txt.cut1 47 p))), .int .i64 (Txt.val (Txt.cut2 47 p)), .bool false]) (by simp [results, Tryz.results198, go_sem] <;> omega) rfl ⟨span_mk hA.out hB.out hS.out hK.out (decide_eq_false (by omega)).symm (by omega), ⟨_, rfl⟩⟩
 ·go_wp2_with (first | (go_at_call 213; refine (lowest_any _ _).mono ?_; rintro e w' ⟨rfl, rfl⟩) | (go_at_call 214; refine (highest_any _ _).mono ?_; rintro e w' ⟨rfl, rfl⟩))
  exact bodyPost_ret (v := .tuple #[.int .i64 (Txt.val (Txt.cut1 45 (Txt.cut1 47 p))), .int .i64 (Txt.val (Txt.cut2 45 (Txt.cut1 47 p))), .int .i64 (Txt.val (Txt.cut2 47 p)), .bool true]) (by simp [results, Tryz.results198, go_sem] <;> omega) rfl ⟨span_mk hA.out hB.out hS.out hK.out (decide_eq_true ⟨by omega, by omega, by omega, by omega⟩).symm (by omega), ⟨_, rfl⟩⟩

theorem span_any (p : ByteArray) (i : Int) (w : World) (hs : p.size ≤ 300) :
 Calls Tryz.prog 198 #[.string p, .int .i64 i] w fun e w' => SpanR i p e ∧ ∃ n, w' = w.drewN n := by
 cases h1 : Txt.star (Txt.cut1 47 p) <;> cases h2 : Txt.cut3 47 p
 ·cases h3 : Txt.cut3 45 (Txt.cut1 47 p)
  ·exact span_c p i w hs h1 h2 h3
  ·exact span_d p i w hs h1 h2 h3
 ·cases h3 : Txt.cut3 45 (Txt.cut1 47 p)
  ·exact span_e p i w hs h1 h2 h3
  ·exact span_f p i w hs h1 h2 h3
 ·exact span_a p i w hs h1 h2
 ·exact span_b p i w hs h1 h2
theorem parts_step (c : Int) (y : ByteArray) (L : List ByteArray) (n : Nat) (h : L.length + y.size ≤ n + (if true = true then 0 else 1)) :
 (L ++ [Txt.cut1 c y]).length + (Txt.cut2 c y).size ≤ n + (if Txt.cut3 c y = true then 0 else 1) ∧ (Txt.cut2 c y).size + boolSize (.bool (Txt.cut3 c y)) < y.size + 1 := by
 cases q : Txt.cut3 c y
 ·have hf : ¬ Txt.fst c y < y.size := by simpa [Txt.cut3] using q
  have e : Txt.cut2 c y = ByteArray.empty := by simp [Txt.cut2, hf]
  simp [e, boolSize] at h ⊢; omega
 ·have := Txt.cut2_lt q
  simp [boolSize] at h ⊢; omega
theorem parts_pcs (c : Int) (s y : ByteArray) (L : List ByteArray) (h : Txt.pcs c s = L ++ (if true = true then Txt.pcs c y else [])) :
 Txt.pcs c s = (L ++ [Txt.cut1 c y]) ++ (if Txt.cut3 c y = true then Txt.pcs c (Txt.cut2 c y) else []) := by
 rw [h, if_pos rfl, Txt.pcs_cut]
 cases Txt.cut3 c y <;> simp

set_option maxHeartbeats 1000000 in
theorem parts_any (s : ByteArray) (c : Int) (w : World) (hs : s.size ≤ 300) :
 Calls Tryz.prog 165 #[.string s, .int .u8 c] w fun e w' => (∃ b cap, e = .returned (.slice (some ⟨b, 0, none⟩) (Txt.pcs c s).length cap) ∧ w.heap.size ≤ b ∧ (Txt.pcs c s).length ≤ cap ∧ StrsAt w' b (Txt.pcs c s)) ∧ Below w.heap.size w w' := by
 obtain ⟨i0, hi, hz0, hz1, hz2⟩ := info_parts infoStr
 go_enter Tryz.func165, Tryz.ntmps165
 go_wp2_with fail
 go_loopw [0, 5, 6] (fun x v m wr => ∃ (y : ByteArray) (L : List ByteArray) (more : Bool), y.size ≤ 300 ∧ x = .string y ∧ m = .bool more ∧ L.length + y.size ≤ s.size + (if more = true then 0 else 1) ∧ Txt.pcs c s = L ++ (if more = true then Txt.pcs c y else []) ∧ wr.ownsRow w.heap.size 9 1 v L.length (L.map Value.string) ∧ Below w.heap.size w wr) (fun x _ m _ => strSize x + boolSize m)
 case atStart => exact ⟨s, [], true, hs, rfl, rfl, by simp, by simp, World.ownsRow_nil _ _ _ _, Below.refl _ _⟩
 case round =>
  obtain ⟨y, L, more, hy, rfl, rfl, hL, hp, hown, hnx⟩ := hrel
  have hsz := hnx.size
  cases more
  ·have HP : Hid (Txt.pcs c s = L) := by unfold Hid; rw [hp]; simp
   clear hp
   have hne : 0 < L.length := by have := Txt.pcs_ne c s; rw [HP.out] at this; exact this
   obtain ⟨g, cap, hv, hge, _⟩ := hown.form hne
   have HV : Hid (u5 = Value.slice (some ⟨g, 0, none⟩) (Txt.pcs c s).length cap) := by unfold Hid; rw [HP.out]; exact hv
   have hown2 := hown
   rw [hv] at hown2
   have hA : Hid (StrsAt wr g (Txt.pcs c s)) := by unfold Hid; rw [HP.out]; exact strs_of_own hown2 rfl
   have hcap : Hid ((Txt.pcs c s).length ≤ cap) := by
    unfold Hid; rw [HP.out]
    rcases hown2.2 with ⟨h, _⟩ | ⟨g', cap', cur, h, _, _, h2, _⟩
    ·cases h
    ·cases h; exact h2
   clear hown2 hown hL hv
   go_wp2_with fail
   go_ret
   exact ⟨⟨g, cap, congrArg Ending.returned HV.out, hge, hcap.out, hA.out⟩, hnx⟩
  ·have HS : Hid ((L ++ [Txt.cut1 c y]).length + (Txt.cut2 c y).size ≤ s.size + (if Txt.cut3 c y = true then 0 else 1) ∧ (Txt.cut2 c y).size + boolSize (.bool (Txt.cut3 c y)) < y.size + 1) := parts_step c y L _ hL
   have HP : Hid (Txt.pcs c s = (L ++ [Txt.cut1 c y]) ++ (if Txt.cut3 c y = true then Txt.pcs c (Txt.cut2 c y) else [])) := parts_pcs c s y L hp
   have HY : Hid ((Txt.cut2 c y).size ≤ 300) := Nat.le_trans (Txt.cut2_size _ _) hy
   have hLn : L.length ≤ 300 := by simp at hL; omega
   clear hp hL
   go_wp2_with fail
   refine (rcut_any _ _ _ hy).mono ?_
   rintro e w' ⟨rfl, n1, rfl⟩
   go_wp2_with (at_builtin; refine wpList_append_lies _ rfl (.tmp 18) (.tmp 20) 47 rfl w.heap.size 9 i0 (.string ByteArray.empty) 1 16 Tryz.underlying47 hi hz0 hz1 hz2 rfl (by decide) _ _ _ rfl (ownsRow_drewN (hown.alloc _) _) ⟨wr.heap.size, 0, none⟩ 1 1 [.string (Txt.cut1 c y)] rfl rfl ?c1 ?c2 (by decide) ?c3 ?c4 ?c5 _ rfl ?_)
   case c1 => exact cell_one_new _ _ _
   case c2 => intro u hu; simp at hu; subst hu; rfl
   case c3 => unfold maxLen; omega
   case c4 => omega
   case c5 => simp; omega
   ·intro g cap w1 hown' hgrow _ hlt'
    have B1 : Below w.heap.size w w1 := (below_drewN (hnx.alloc hsz _) _).grown hgrow (by simp; omega) (fun k' e => (hown.lt k' e).1)
    have hown2 : w1.ownsRow w.heap.size 9 1 (.slice (some ⟨g, 0, none⟩) (L.length + 1) cap) (L ++ [Txt.cut1 c y]).length ((L ++ [Txt.cut1 c y]).map Value.string) := by simpa using hown'
    clear hown' hgrow hown hnx
    go_wp2_with fail
    go_roundw
    case rel => exact ⟨Txt.cut2 c y, L ++ [Txt.cut1 c y], Txt.cut3 c y, HY.out, rfl, rfl, HS.out.1, HP.out, hown2, B1⟩
    case measure => exact HS.out.2
set_option maxHeartbeats 1000000 in
theorem isField_any (f : ByteArray) (i : Int) (w : World) (hs : f.size ≤ 300) :
 Calls Tryz.prog 166 #[.string f, .int .i64 i] w fun e w' => e = .returned (.bool (Txt.fldB (lo i) (hi i) f)) ∧ Below w.heap.size w w' := by
 go_enter Tryz.func166, Tryz.ntmps166
 go_wp2_with fail
 refine (parts_any _ _ _ hs).mono ?_
 rintro e w1 ⟨⟨b, cap, rfl, _, hcap, hS⟩, hb⟩
 have hlen := Txt.pcs_len 44 f
 have HC : Hid (StrsAt w1 b (Txt.pcs 44 f)) := hS
 clear hS
 go_wp2_with fail
 go_loopw [6] (fun x wr => ∃ k : Nat, k ≤ (Txt.pcs 44 f).length ∧ x = .int .i64 k ∧ (∀ j (hj : j < (Txt.pcs 44 f).length), j < k → Txt.spK (lo i) (hi i) (Txt.pcs 44 f)[j] = true) ∧ ∃ n, wr = w1.drewN n) (fun x _ => (Txt.pcs 44 f).length - (intOf x).toNat)
 case atStart => exact ⟨0, Nat.zero_le _, rfl, fun j _ h => by omega, 0, rfl⟩
 case round =>
  obtain ⟨k, hk, rfl, hall, n0, rfl⟩ := hrel
  have HA : Hid (∀ j (hj : j < (Txt.pcs 44 f).length), j < k → Txt.spK (lo i) (hi i) (Txt.pcs 44 f)[j] = true) := hall
  clear hall
  by_cases hlt : k < (Txt.pcs 44 f).length
  ·have hcell : w1.cell? ⟨b, k, none⟩ = some (.string (Txt.pcs 44 f)[k]) := HC.out k hlt
   have hsz : Hid ((Txt.pcs 44 f)[k].size ≤ 300) := Txt.pcs_sz hs k hlt
   go_wp2_with fail
   refine (span_any _ _ _ hsz.out).mono ?_
   rintro e w' ⟨⟨a1, b1, t1, rfl, _, _⟩, n1, rfl⟩
   cases hq : Txt.spK (lo i) (hi i) (Txt.pcs 44 f)[k]
   ·have e : Hid (Txt.fldB (lo i) (hi i) f = false) := Txt.fldB_no hlt hq
    go_wp2_with fail
    go_ret
    exact ⟨ret_bool' e.out.symm, below_drewN hb _⟩
   ·have HQ : Hid (Txt.spK (lo i) (hi i) (Txt.pcs 44 f)[k] = true) := hq
    go_wp2_with fail
    go_roundw
    case rel =>
     refine ⟨k + 1, by omega, by go_num, fun j hj h => ?_, _, rfl⟩
     by_cases q : j = k
     ·subst q; exact HQ.out
     ·exact HA.out j hj (by omega)
    case measure => simp [intOf]; omega
  ·have e : Hid (Txt.fldB (lo i) (hi i) f = true) := Txt.fldB_yes (fun j hj => HA.out j hj (by omega))
   go_wp2_with fail
   go_ret
   exact ⟨ret_bool' e.out.symm, below_drewN hb _⟩

set_option maxHeartbeats 1000000 in
theorem holds_any (f : ByteArray) (i v : Int) (w : World) (hs : f.size ≤ 300) (v1 : 0 ≤ v) (v2 : v ≤ 60) (hf : Txt.fldB (lo i) (hi i) f = true) :
 Calls Tryz.prog 227 #[.string f, .int .i64 i, .int .i64 v] w fun e w' => e = .returned (.bool (Txt.hldB (lo i) (hi i) v f)) ∧ Below w.heap.size w w' := by
 have HF : Hid (Txt.fldB (lo i) (hi i) f = true) := hf
 clear hf
 go_enter Tryz.func227, Tryz.ntmps227
 go_wp2_with fail
 refine (parts_any _ _ _ hs).mono ?_
 rintro e w1 ⟨⟨b, cap, rfl, _, hcap, hS⟩, hb⟩
 have hlen := Txt.pcs_len 44 f
 have hlh := lohi i
 have HC : Hid (StrsAt w1 b (Txt.pcs 44 f)) := hS
 clear hS
 go_wp2_with fail
 go_loopw [8] (fun x wr => ∃ k : Nat, k ≤ (Txt.pcs 44 f).length ∧ x = .int .i64 k ∧ (∀ j (hj : j < (Txt.pcs 44 f).length), j < k → Txt.inB (Txt.spA (lo i) (Txt.pcs 44 f)[j]) (Txt.spB (hi i) (Txt.pcs 44 f)[j]) (Txt.spS (Txt.pcs 44 f)[j]) v = false) ∧ ∃ n, wr = w1.drewN n) (fun x _ => (Txt.pcs 44 f).length - (intOf x).toNat)
 case atStart => exact ⟨0, Nat.zero_le _, rfl, fun j _ h => by omega, 0, rfl⟩
 case round =>
  obtain ⟨k, hk, rfl, hall, n0, rfl⟩ := hrel
  have HA : Hid (∀ j (hj : j < (Txt.pcs 44 f).length), j < k → Txt.inB (Txt.spA (lo i) (Txt.pcs 44 f)[j]) (Txt.spB (hi i) (Txt.pcs 44 f)[j]) (Txt.spS (Txt.pcs 44 f)[j]) v = false) := hall
  clear hall
  by_cases hlt : k < (Txt.pcs 44 f).length
  ·have hcell : w1.cell? ⟨b, k, none⟩ = some (.string (Txt.pcs 44 f)[k]) := HC.out k hlt
   have hsz : Hid ((Txt.pcs 44 f)[k].size ≤ 300) := Txt.pcs_sz hs k hlt
   have hK := Txt.fldB_at HF.out k hlt
   have hbd := Txt.spK_bd hK
   have HK : Hid (Txt.spK (lo i) (hi i) (Txt.pcs 44 f)[k] = true) := hK
   clear hK
   go_wp2_with fail
   refine (span_any _ _ _ hsz.out).mono ?_
   rintro e w' ⟨⟨a1, b1, t1, rfl, _, hsp⟩, n1, rfl⟩
   obtain ⟨rfl, rfl, rfl⟩ := hsp HK.out
   have HN : Hid (Txt.inB (Txt.spA (lo i) (Txt.pcs 44 f)[k]) (Txt.spB (hi i) (Txt.pcs 44 f)[k]) (Txt.spS (Txt.pcs 44 f)[k]) v = false → ∀ j (hj : j < (Txt.pcs 44 f).length), j < k + 1 → Txt.inB (Txt.spA (lo i) (Txt.pcs 44 f)[j]) (Txt.spB (hi i) (Txt.pcs 44 f)[j]) (Txt.spS (Txt.pcs 44 f)[j]) v = false) := by
    intro h j hj hl
    by_cases q : j = k
    ·subst q; exact h
    ·exact HA.out j hj (by omega)
   have HY : Hid (Txt.inB (Txt.spA (lo i) (Txt.pcs 44 f)[k]) (Txt.spB (hi i) (Txt.pcs 44 f)[k]) (Txt.spS (Txt.pcs 44 f)[k]) v = true → Txt.hldB (lo i) (hi i) v f = true) := Txt.hldB_yes hlt
   generalize Txt.spA (lo i) (Txt.pcs 44 f)[k] = A at *
   generalize Txt.spB (hi i) (Txt.pcs 44 f)[k] = B at *
   generalize Txt.spS (Txt.pcs 44 f)[k] = S at *
   by_cases q1 : A ≤ v
   rotate_left
   ·go_wp2_with fail
    go_roundw
    case rel => exact ⟨k + 1, by omega, by go_num, HN.out (Txt.inB_no (by omega)), _, rfl⟩
    case measure => simp [intOf]; omega
   by_cases q2 : v ≤ B
   rotate_left
   ·go_wp2_with fail
    go_roundw
    case rel => exact ⟨k + 1, by omega, by go_num, HN.out (Txt.inB_no (by omega)), _, rfl⟩
    case measure => simp [intOf]; omega
   cases q3 : ((v - A) % S == 0)
   ·have q4 : ¬ (v - A) % S = 0 := by simpa using q3
    have Q4 : Hid (¬ (v - A) % S = 0) := q4
    clear q4
    have q3' : ((v - A).tmod S == 0) = false := by rw [Int.tmod_eq_emod_of_nonneg (by omega)]; exact q3
    go_wp2_with fail
    go_roundw
    case rel => exact ⟨k + 1, by omega, by go_num, HN.out (Txt.inB_no (Or.inr (Or.inr (Or.inr Q4.out)))), _, rfl⟩
    case measure => simp [intOf]; omega
   ·have q4 : (v - A) % S = 0 := by simpa using q3
    have e : Hid (Txt.hldB (lo i) (hi i) v f = true) := HY.out (Txt.inB_yes q1 q2 (by omega) q4)
    have q3' : ((v - A).tmod S == 0) = true := by rw [Int.tmod_eq_emod_of_nonneg (by omega)]; exact q3
    clear q4
    go_wp2_with fail
    go_ret
    exact ⟨ret_bool' e.out.symm, below_drewN hb _⟩
  ·have e : Hid (Txt.hldB (lo i) (hi i) v f = false) := Txt.hldB_no (fun j hj => HA.out j hj (by omega))
   go_wp2_with fail
   go_ret
   exact ⟨ret_bool' e.out.symm, below_drewN hb _⟩
end Go.Proofs.YtdajolpoiffimaaGreatDoor

namespace Go.Proofs.YtdajolpoiffimaaGreatDoor
open Go.RowKit

set_option maxHeartbeats 2000000 in
theorem isLine_any (s : ByteArray) (w : World) (hs : s.size ≤ 300) :
 Calls Tryz.prog 132 #[.string s] w fun e w' => e = .returned (.bool (lineB s)) ∧ Below w.heap.size w w' := by
 go_enter Tryz.func132, Tryz.ntmps132
 go_wp2_with fail
 refine (parts_any _ _ _ hs).mono ?_
 rintro e w1 ⟨⟨b, cap, rfl, _, hcap, hS⟩, hb⟩
 have hlen := Txt.pcs_len 32 s
 by_cases n7 : (Txt.pcs 32 s).length < 7
 ·have e : Hid (lineB s = false) := lineB_no (fun h => by have := h.n7; omega)
  go_wp2_with fail
  go_ret
  exact ⟨ret_bool' e.out.symm, hb⟩
 by_cases n11 : 11 < (Txt.pcs 32 s).length
 ·have e : Hid (lineB s = false) := lineB_no (fun h => by have := h.n11; omega)
  go_wp2_with fail
  go_ret
  exact ⟨ret_bool' e.out.symm, hb⟩
 have h5 : 5 < (Txt.pcs 32 s).length := by omega
 have c5 : w1.cell? ⟨b, 5, none⟩ = some (.string (Txt.pcs 32 s)[5]) := hS 5 h5
 have z5 : (Txt.pcs 32 s)[5].size ≤ 300 := Txt.pcs_sz hs 5 h5
 have HS : Hid (StrsAt w1 b (Txt.pcs 32 s)) := hS
 clear hS
 by_cases n3 : (Txt.pcs 32 s)[5].size = 3
 rotate_left
 ·have e : Hid (lineB s = false) := lineB_no (fun h => by
   have := h.opt h5
   rw [Txt.optB_no (fun q => n3 q.1)] at this; cases this)
  have n3' : (((Txt.pcs 32 s)[5].size : Int) != 3) = true := by simp; omega
  clear n3
  go_wp2_with fail
  go_ret
  exact ⟨ret_bool' e.out.symm, hb⟩
 have n3' : (((Txt.pcs 32 s)[5].size : Int) != 3) = false := by simp; omega
 have N3 : Hid ((Txt.pcs 32 s)[5].size = 3) := n3
 clear n3
 go_wp2_with fail
 clear c5
 go_loopw [4] (fun x wr => ∃ k : Nat, k ≤ 5 ∧ x = .int .i64 k ∧ (∀ (j : Nat) (hj : j < (Txt.pcs 32 s).length), j < k → Txt.fldB (lo j) (hi j) (Txt.pcs 32 s)[j] = true) ∧ Below w1.heap.size w1 wr) (fun x _ => 5 - (intOf x).toNat)
 case atStart => exact ⟨0, by omega, rfl, fun j _ h => by omega, Below.refl _ _⟩
 case round =>
  obtain ⟨k, hk, rfl, hall, hbr⟩ := hrel
  have HA : Hid (∀ (j : Nat) (hj : j < (Txt.pcs 32 s).length), j < k → Txt.fldB (lo j) (hi j) (Txt.pcs 32 s)[j] = true) := hall
  clear hall
  have BB : Hid (Below w.heap.size w wr) := hb.trans (hbr.mono hb.size)
  by_cases hlt : k < 5
  ·have hkl : k < (Txt.pcs 32 s).length := by omega
   have hcell : wr.cell? ⟨b, k, none⟩ = some (.string (Txt.pcs 32 s)[k]) := cell_later hbr (HS.out k hkl)
   have zk : Hid ((Txt.pcs 32 s)[k].size ≤ 300) := Txt.pcs_sz hs k hkl
   go_wp2_with fail
   refine (isField_any _ _ _ zk.out).mono ?_
   rintro e w2 ⟨rfl, hb2⟩
   clear hcell
   have hbr2 : Below w1.heap.size w1 w2 := hbr.trans (hb2.mono hbr.size)
   have BB2 : Hid (Below w.heap.size w w2) := hb.trans (hbr2.mono hb.size)
   clear hbr hb2
   cases hq : Txt.fldB (lo k) (hi k) (Txt.pcs 32 s)[k]
   ·have e : Hid (lineB s = false) := lineB_no (fun h => by rw [h.fld k hkl hlt] at hq; cases hq)
    go_wp2_with fail
    go_ret
    exact ⟨ret_bool' e.out.symm, BB2.out⟩
   ·have HQ : Hid (Txt.fldB (lo k) (hi k) (Txt.pcs 32 s)[k] = true) := hq
    go_wp2_with fail
    go_roundw
    case rel =>
     refine ⟨k + 1, by omega, by go_num, fun j hj h => ?_, hbr2⟩
     by_cases q : j = k
     ·subst q; exact HQ.out
     ·exact HA.out j hj (by omega)
    case measure => simp [intOf]; omega
  ·obtain rfl : k = 5 := by omega
   have c5 : wr.cell? ⟨b, 5, none⟩ = some (.string (Txt.pcs 32 s)[5]) := cell_later hbr (HS.out 5 h5)
   have i3 : (Txt.pcs 32 s)[5].size = 3 := N3.out
   have x0 : ((Txt.pcs 32 s)[5].extract 0 1).size ≤ 300 := by simp [ByteArray.size_extract]; omega
   have x1 : ((Txt.pcs 32 s)[5].extract 1 2).size ≤ 300 := by simp [ByteArray.size_extract]; omega
   have x2 : ((Txt.pcs 32 s)[5].extract 2 (Txt.pcs 32 s)[5].size).size ≤ 300 := by simp [ByteArray.size_extract]; omega
   have X0 : Hid (((Txt.pcs 32 s)[5].extract 0 1).size ≤ 300) := x0
   have X1 : Hid (((Txt.pcs 32 s)[5].extract 1 2).size ≤ 300) := x1
   have X2 : Hid (((Txt.pcs 32 s)[5].extract 2 (Txt.pcs 32 s)[5].size).size ≤ 300) := x2
   clear x0 x1 x2 i3
   have y1 : 1 ≤ (Txt.pcs 32 s)[5].size := by have := N3.out; omega
   have y2 : 2 ≤ (Txt.pcs 32 s)[5].size := by have := N3.out; omega
   go_wp2_with fail
   refine (among_any _ _ _ X0.out (by decide)).mono ?_
   rintro e w' ⟨rfl, m1, rfl⟩
   go_wp2_with fail
   refine (among_any _ _ _ X1.out (by decide)).mono ?_
   rintro e w' ⟨rfl, m2, rfl⟩
   go_wp2_with fail
   refine (among_any _ _ _ X2.out (by decide)).mono ?_
   rintro e w' ⟨rfl, m3, rfl⟩
   have OA : Hid ((Txt.amgB ((Txt.pcs 32 s)[5].extract 0 1) ⟨#[120, 111]⟩ && Txt.amgB ((Txt.pcs 32 s)[5].extract 1 2) ⟨#[97, 108, 110]⟩ && Txt.amgB ((Txt.pcs 32 s)[5].extract 2 (Txt.pcs 32 s)[5].size) ⟨#[49, 50, 51, 52, 53]⟩) = Txt.optB (Txt.pcs 32 s)[5]) := Txt.opt_amg N3.out
   generalize Txt.amgB ((Txt.pcs 32 s)[5].extract 0 1) ⟨#[120, 111]⟩ = A0 at *
   generalize Txt.amgB ((Txt.pcs 32 s)[5].extract 1 2) ⟨#[97, 108, 110]⟩ = A1 at *
   generalize Txt.amgB ((Txt.pcs 32 s)[5].extract 2 (Txt.pcs 32 s)[5].size) ⟨#[49, 50, 51, 52, 53]⟩ = A2 at *
   go_wp2_with fail
   go_loop [9] (fun x => ∃ k : Nat, 6 ≤ k ∧ k ≤ (Txt.pcs 32 s).length ∧ x = .int .i64 k ∧ (∀ (j : Nat) (hj : j < (Txt.pcs 32 s).length), 6 ≤ j → j < k → Txt.stepB (Txt.pcs 32 s)[j] = true)) (fun x => (Txt.pcs 32 s).length - (intOf x).toNat)
   case atStart => exact ⟨6, by omega, by omega, rfl, fun j _ h h' => by omega⟩
   case round =>
    obtain ⟨k, hk6, hkl, rfl, hall⟩ := hrel
    have HT : Hid (∀ (j : Nat) (hj : j < (Txt.pcs 32 s).length), 6 ≤ j → j < k → Txt.stepB (Txt.pcs 32 s)[j] = true) := hall
    clear hall
    by_cases hkk : k < (Txt.pcs 32 s).length
    ·have hcell : wr.cell? ⟨b, k, none⟩ = some (.string (Txt.pcs 32 s)[k]) := cell_later hbr (HS.out k hkk)
     have zk : Hid ((Txt.pcs 32 s)[k].size ≤ 300) := Txt.pcs_sz hs k hkk
     cases hq : Txt.stepB (Txt.pcs 32 s)[k]
     ·have e : Hid (lineB s = false) := lineB_no (fun h => by rw [h.stp k hkk hk6] at hq; cases hq)
      go_wp2_with (go_at_call 168; refine (risStep_any _ _ zk.out).mono ?_; rintro e w' ⟨rfl, rfl⟩)
      go_ret
      exact ⟨ret_bool' e.out.symm, below_drewN BB.out _⟩
     ·have HQ : Hid (Txt.stepB (Txt.pcs 32 s)[k] = true) := hq
      go_wp2_with (go_at_call 168; refine (risStep_any _ _ zk.out).mono ?_; rintro e w' ⟨rfl, rfl⟩)
      go_round
      case rel =>
       refine ⟨k + 1, by omega, by omega, by go_num, fun j hj h1 h => ?_⟩
       by_cases q : j = k
       ·subst q; exact HQ.out
       ·exact HT.out j hj h1 (by omega)
      case measure => simp [intOf]; omega
    ·have e : Hid (Txt.optB (Txt.pcs 32 s)[5] = lineB s) := by
      unfold Hid
      cases q : Txt.optB (Txt.pcs 32 s)[5]
      ·exact (lineB_no (fun h => by rw [h.opt h5] at q; cases q)).symm
      ·exact (lineB_yes ⟨by omega, by omega, fun i h h' => HA.out i h h', fun _ => q, fun i h h' => HT.out i h h' (by omega)⟩).symm
     have E : Hid (∀ r : Bool, r = (A0 && A1 && A2) → r = lineB s) := fun r hr => by rw [hr, OA.out, e.out]
     clear e OA
     cases A0
     ·go_wp2_with fail
      go_ret
      exact ⟨ret_bool' (E.out _ rfl), below_drewN BB.out _⟩
     cases A1
     ·go_wp2_with fail
      go_ret
      exact ⟨ret_bool' (E.out _ rfl), below_drewN BB.out _⟩
     cases A2
     ·go_wp2_with fail
      go_ret
      exact ⟨ret_bool' (E.out _ rfl), below_drewN BB.out _⟩
     ·go_wp2_with fail
      go_ret
      exact ⟨ret_bool' (E.out _ rfl), below_drewN BB.out _⟩
end Go.Proofs.YtdajolpoiffimaaGreatDoor

namespace Go.Proofs.YtdajolpoiffimaaGreatDoor
open Go.RowKit

set_option maxHeartbeats 1000000 in
theorem lines_any (s : ByteArray) (w : World) (hs : s.size ≤ 300) :
 Calls Tryz.prog 131 #[.string s] w fun e w' => (∃ b cap, e = .returned (.tuple #[.slice (some ⟨b, 0, none⟩) (tm s) cap, .bool (tb s)]) ∧ StrsAt w' b (Txt.pcs 10 s)) ∧ Below w.heap.size w w' := by
 go_enter Tryz.func131, Tryz.ntmps131
 go_wp2_with fail
 refine (parts_any _ _ _ hs).mono ?_
 rintro e w1 ⟨⟨b, cap, rfl, hge, hcap, hS⟩, hb⟩
 have hlen := Txt.pcs_len 10 s
 have hn := tn_len s
 have HS : Hid (StrsAt w1 b (Txt.pcs 10 s)) := hS
 rw [hn] at hcap hlen ⊢
 have c : w1.cell? ⟨b, tn s, none⟩ = some (.string (tl s (tn s))) := by rw [← tl_eq (tn_lt s)]; exact hS _ (tn_lt s)
 clear hn hS
 have b1 : (0 : Int) ≤ (tn s : Int) := by omega
 have b2 : (tn s : Int) < ((tn s + 1 : Nat) : Int) := by omega
 have b3 : (tn s : Int) ≤ (cap : Int) := by omega
 have he := empty_list (s := tl s (tn s))
 by_cases z : (tl s (tn s)).size = 0
 ·have Z : Hid ((tl s (tn s)).size = 0) := z
  rw [decide_eq_true z] at he
  clear z
  go_wp2_with fail
  go_ret2
  refine ⟨⟨b, cap, ?_, HS.out⟩, hb⟩
  rw [tm, tb, if_pos Z.out, decide_eq_true Z.out]; rfl
 ·have Z : Hid (¬ (tl s (tn s)).size = 0) := z
  rw [decide_eq_false z] at he
  clear z
  go_wp2_with fail
  go_ret2
  refine ⟨⟨b, cap, ?_, HS.out⟩, hb⟩
  rw [tm, tb, if_neg Z.out, decide_eq_false Z.out]; rfl

set_option maxHeartbeats 2000000 in
theorem rcheck_any (s : ByteArray) (w : World) (hs : s.size ≤ maxLen) :
 Calls Tryz.prog 89 #[.string s] w fun e w' => (∃ a r : Int, e = .returned (.tuple #[.int .i64 a, .int .i64 r]) ∧ ChkR s a r ∧ 0 ≤ r) ∧ Below w.heap.size w w' := by
 unfold maxLen at hs
 by_cases h300 : 300 < s.size
 ·have K : Hid (ChkR s 0 1) := ChkR.long h300
  go_enter Tryz.func89, Tryz.ntmps89
  go_wp2_with fail
  go_ret2
  exact ⟨⟨0, 1, rfl, K.out, by omega⟩, Below.refl _ _⟩
 have hs3 : s.size ≤ 300 := by omega
 go_enter Tryz.func89, Tryz.ntmps89
 go_wp2_with fail
 refine (lines_any _ _ hs3).mono ?_
 rintro e w1 ⟨⟨b, cap, rfl, hS⟩, hb⟩
 have hlen := Txt.pcs_len 10 s
 have hn := tn_len s
 have HS : Hid (StrsAt w1 b (Txt.pcs 10 s)) := hS
 clear hS
 obtain ⟨m, hm⟩ : ∃ m : Nat, m = tm s := ⟨_, rfl⟩
 have HM : Hid (m = tn s + (if (tl s (tn s)).size = 0 then 0 else 1)) := hm
 have hm1 : m ≤ tn s + 1 := by rw [hm, tm]; split <;> omega
 rw [← hm]
 clear hm
 obtain ⟨o, ho⟩ : ∃ o : Bool, o = tb s := ⟨_, rfl⟩
 have HO : Hid (o = !decide ((tl s (tn s)).size = 0)) := ho
 rw [← ho]
 clear ho
 have HN : Hid ((Txt.pcs 10 s).length = tn s + 1) := hn
 have hmb : m ≤ 302 := by omega
 clear hn hlen hs
 by_cases h4 : 4 < m
 ·have K : Hid (ChkR s 0 2) := ChkR.many hs3 (by rw [← HM.out]; exact h4)
  go_wp2_with fail
  go_ret2
  exact ⟨⟨0, 2, rfl, K.out, by omega⟩, hb⟩
 have h4' : Hid (tn s + (if (tl s (tn s)).size = 0 then 0 else 1) ≤ 4) := by unfold Hid; rw [← HM.out]; omega
 go_wp2_with fail
 go_loopw [6] (fun x wr => ∃ k : Nat, k ≤ m ∧ x = .int .i64 k ∧ (∀ j : Nat, j < k → lineB (tl s j) = true) ∧ (k ≤ tn s) ∧ Below w1.heap.size w1 wr) (fun x _ => m - (intOf x).toNat)
 case atStart => exact ⟨0, Nat.zero_le _, rfl, fun j h => by omega, Nat.zero_le _, Below.refl _ _⟩
 case round =>
  obtain ⟨k, hk, rfl, hall, hkn, hbr⟩ := hrel
  have HA : Hid (∀ j : Nat, j < k → lineB (tl s j) = true) := hall
  clear hall
  by_cases hlt : k < m
  ·have hkl : k < (Txt.pcs 10 s).length := by have := HN.out; omega
   have hcell : wr.cell? ⟨b, k, none⟩ = some (.string (tl s k)) := by rw [← tl_eq hkl]; exact cell_later hbr (HS.out k hkl)
   have zk : Hid ((tl s k).size ≤ 300) := tl_sz hs3 k hkl
   have b1 : (0 : Int) ≤ (k : Int) := by omega
   have b2 : (k : Int) < (m : Int) := by omega
   go_wp2_with fail
   refine (isLine_any _ _ zk.out).mono ?_
   rintro e w2 ⟨rfl, hb2⟩
   clear hcell
   have hbr2 : Below w1.heap.size w1 w2 := hbr.trans (hb2.mono hbr.size)
   have BB : Hid (Below w.heap.size w w2) := hb.trans (hbr2.mono hb.size)
   clear hbr hb2
   cases hq : lineB (tl s k)
   ·have K : Hid (ChkR s (k + 1) 3) := by
     unfold Hid
     by_cases q : k < tn s
     ·exact ChkR.line hs3 h4'.out k q hq HA.out
     ·have e : k = tn s := by omega
      have z : ¬ (tl s (tn s)).size = 0 := by intro z; have := HM.out; rw [if_pos z] at this; omega
      rw [e]
      exact ChkR.last hs3 h4'.out (fun j hj => HA.out j (by omega)) z
    go_wp2_with fail
    go_ret2
    exact ⟨⟨_, 3, rfl, K.out, by omega⟩, BB.out⟩
   ·have HQ : Hid (lineB (tl s k) = true) := hq
    have HA' : Hid (∀ j : Nat, j < k + 1 → lineB (tl s j) = true) := by
     intro j h
     by_cases q : j = k
     ·subst q; exact HQ.out
     ·exact HA.out j (by omega)
    by_cases hlast : k = tn s
    ·have z : ¬ (tl s (tn s)).size = 0 := by intro z; have := HM.out; rw [if_pos z] at this; omega
     have K : Hid (ChkR s (k + 1) 3) := by
      unfold Hid; rw [hlast]
      exact ChkR.last hs3 h4'.out (fun j hj => HA.out j (by omega)) z
     have o1 : o = true := by have := HO.out; rw [decide_eq_false z] at this; exact this
     have q2 : ((k : Int) == (m : Int) - 1) = true := by have := HM.out; rw [if_neg z] at this; simp; omega
     clear hlast z
     go_wp2_with fail
     go_ret2
     exact ⟨⟨_, 3, rfl, K.out, by omega⟩, BB.out⟩
    ·cases o
     ·go_wp2_with fail
      go_roundw
      case rel => exact ⟨k + 1, by omega, by go_num, HA'.out, by omega, hbr2⟩
      case measure => simp [intOf]; omega
     ·have z : ¬ (tl s (tn s)).size = 0 := by
       intro z; have := HO.out; rw [decide_eq_true z] at this; cases this
      have q2 : ((k : Int) == (m : Int) - 1) = false := by have := HM.out; rw [if_neg z] at this; simp; omega
      clear z
      go_wp2_with fail
      go_roundw
      case rel => exact ⟨k + 1, by omega, by go_num, HA'.out, by omega, hbr2⟩
      case measure => simp [intOf]; omega
  ·have z : (tl s (tn s)).size = 0 := by
    by_cases z : (tl s (tn s)).size = 0
    ·exact z
    ·have := HM.out; rw [if_neg z] at this; omega
   have K : Hid (ChkR s 0 0) := ChkR.ok hs3 h4'.out (fun j hj => HA.out j (by have := HM.out; rw [if_pos z] at this; omega)) z
   have BB : Hid (Below w.heap.size w wr) := hb.trans (hbr.mono hb.size)
   clear z
   go_wp2_with fail
   go_ret2
   exact ⟨⟨0, 0, rfl, K.out, by omega⟩, BB.out⟩
end Go.Proofs.YtdajolpoiffimaaGreatDoor

namespace Go.Proofs.YtdajolpoiffimaaGreatDoor
open Go.RowKit

attribute [local go_sem ↓] Go.wp_at_zero Go.wp_at_succ

theorem rholds_x (f : ByteArray) (i v : Int) (w : World) (x : Bool) (hx : x = Txt.hldB (lo i) (hi i) v f) (hs : f.size ≤ 300) (v1 : 0 ≤ v) (v2 : v ≤ 60) (hf : Txt.fldB (lo i) (hi i) f = true) :
 Calls Tryz.prog 227 #[.string f, .int .i64 i, .int .i64 v] w fun e w' => e = .returned (.bool x) ∧ Below w.heap.size w w' := hx ▸ holds_any f i v w hs v1 v2 hf

set_option maxHeartbeats 3000000 in
theorem dueAt_any (s : ByteArray) (y m d h i k : Int) (w : World) (hs : s.size ≤ 300) (hP : LineP s) (m1 : 0 ≤ m) (m2 : m ≤ 60) (d1 : 0 ≤ d) (d2 : d ≤ 60) (h1 : 0 ≤ h) (h2 : h ≤ 60) (i1 : 0 ≤ i) (i2 : i ≤ 60) (k1 : 0 ≤ k) (k2 : k ≤ 60) :
 Calls Tryz.prog 216 #[.string s, dateV y m d h i k] w fun e w' => e = .returned (.bool (dueB s m d h i k)) ∧ Below w.heap.size w w' := by
 have HP : Hid (LineP s) := hP
 have h7 := hP.n7
 have h11 := hP.n11
 clear hP
 go_enter Tryz.func216, Tryz.ntmps216
 go_wp2_with fail
 refine (parts_any _ _ _ hs).mono ?_
 rintro e w1 ⟨⟨b, cap, rfl, _, hcap, hS⟩, hb⟩
 have D1 : DateAt w1 w.heap.size y m d h i k := (DateAt.new w y m d h i k _).later hb
 have cells : ∀ (t : Nat), t < 5 → w1.cell? ⟨b, t, none⟩ = some (.string (pt s t)) := by
  intro t ht
  have hl : t < (Txt.pcs 32 s).length := by omega
  rw [← pt_eq hl]; exact hS t hl
 have C1 : Hid (∀ (t : Nat), t < 5 → w1.cell? ⟨b, t, none⟩ = some (.string (pt s t))) := cells
 have HD1 : Hid (DateAt w1 w.heap.size y m d h i k) := D1
 have B1 : Hid (Below w.heap.size w w1) := (below_alloc w _).trans (hb.mono (by simp))
 have hz1 : w.heap.size < w1.heap.size := by have := hb.size; simp at this; omega
 clear hb hS D1 cells
 obtain ⟨x, hx⟩ : ∃ x : Bool, x = Txt.hldB (lo 0) (hi 0) i (pt s 0) := ⟨_, rfl⟩
 obtain ⟨y', hy⟩ : ∃ x : Bool, x = Txt.hldB (lo 1) (hi 1) h (pt s 1) := ⟨_, rfl⟩
 obtain ⟨z, hz⟩ : ∃ z : Bool, z = Txt.hldB (lo 3) (hi 3) m (pt s 3) := ⟨_, rfl⟩
 obtain ⟨u, hu⟩ : ∃ x : Bool, x = Txt.hldB (lo 2) (hi 2) d (pt s 2) := ⟨_, rfl⟩
 obtain ⟨v, hv⟩ : ∃ z : Bool, z = Txt.hldB (lo 4) (hi 4) k (pt s 4) := ⟨_, rfl⟩
 have HX : Hid (x = Txt.hldB (lo 0) (hi 0) i (pt s 0)) := hx
 have HY : Hid (y' = Txt.hldB (lo 1) (hi 1) h (pt s 1)) := hy
 have HZ : Hid (z = Txt.hldB (lo 3) (hi 3) m (pt s 3)) := hz
 have HU : Hid (u = Txt.hldB (lo 2) (hi 2) d (pt s 2)) := hu
 have HV : Hid (v = Txt.hldB (lo 4) (hi 4) k (pt s 4)) := hv
 have HD : Hid (dueB s m d h i k = (x && (y' && (z && (if (Txt.opn (pt s 2) || Txt.opn (pt s 4)) = true then (u && v) else (u || v)))))) := by unfold Hid; rw [dueB, dayB, hx, hy, hz, hu, hv]
 clear hx hy hz hu hv
 have n0 : (0 : Int) < ((Txt.pcs 32 s).length : Int) := by omega
 have n1 : (1 : Int) < ((Txt.pcs 32 s).length : Int) := by omega
 have n2 : (2 : Int) < ((Txt.pcs 32 s).length : Int) := by omega
 have n3 : (3 : Int) < ((Txt.pcs 32 s).length : Int) := by omega
 have n4 : (4 : Int) < ((Txt.pcs 32 s).length : Int) := by omega
 have n0' : 0 < (Txt.pcs 32 s).length := by omega
 have c1 := C1.out 0 (by decide)
 obtain ⟨q0, q1, q2, q3, q4, q5⟩ := HD1.out
 go_wp2_with fail
 go_region_held3 (fun w' => w'.cell? ⟨b, 0, none⟩ = some (.string (pt s 0)) ∧ w'.cell? ⟨w.heap.size, 4, none⟩ = some (.int .i64 i)) (first | go_keep | (refine ⟨?_, ?_⟩ <;> exact cell_later hb2 (by simp [*]))) ((go_at_call 227; refine (rholds_x _ 0 i _ x HX.out (HP.out.sz hs 0 (by decide)) i1 i2 (HP.out.fl 0 (by decide))).mono ?_; rintro e w2 ⟨rfl, hb2⟩))
 rename Below _ _ _ => hb2
 have BB1 : Below w1.heap.size w1 w2 := (Below.refl _ _).drew.trans hb2
 have HD2 : Hid (DateAt w2 w.heap.size y m d h i k) := HD1.out.later BB1
 have C2 : Hid (∀ (t : Nat), t < 5 → w2.cell? ⟨b, t, none⟩ = some (.string (pt s t))) := fun t ht => cell_later BB1 (C1.out t ht)
 have B2 : Hid (Below w.heap.size w w2) := B1.out.trans (BB1.mono (Nat.le_of_lt hz1))
 have hz2 : w.heap.size < w2.heap.size := Nat.lt_of_lt_of_le hz1 BB1.size
 clear hb2 BB1 C1 HD1 c1 q0 q1 q2 q3 q4 q5 HX
 have c2 := C2.out 1 (by decide)
 obtain ⟨q0, q1, q2, q3, q4, q5⟩ := HD2.out
 go_wp2_with fail
 go_region_held3 (fun w' => w'.cell? ⟨b, 1, none⟩ = some (.string (pt s 1)) ∧ w'.cell? ⟨w.heap.size, 3, none⟩ = some (.int .i64 h)) (first | go_keep | (refine ⟨?_, ?_⟩ <;> exact cell_later hb2 (by simp [*]))) ((go_at_call 227; refine (rholds_x _ 1 h _ y' HY.out (HP.out.sz hs 1 (by decide)) h1 h2 (HP.out.fl 1 (by decide))).mono ?_; rintro e w3 ⟨rfl, hb2⟩))
 rename Below _ _ _ => hb2
 have BB2 : Below w2.heap.size w2 w3 := (Below.refl _ _).drew.trans hb2
 have HD3 : Hid (DateAt w3 w.heap.size y m d h i k) := HD2.out.later BB2
 have C3 : Hid (∀ (t : Nat), t < 5 → w3.cell? ⟨b, t, none⟩ = some (.string (pt s t))) := fun t ht => cell_later BB2 (C2.out t ht)
 have B3 : Hid (Below w.heap.size w w3) := B2.out.trans (BB2.mono (Nat.le_of_lt hz2))
 have hz3 : w.heap.size < w3.heap.size := Nat.lt_of_lt_of_le hz2 BB2.size
 clear hb2 BB2 C2 HD2 c2 q0 q1 q2 q3 q4 q5 HY
 have c3 := C3.out 3 (by decide)
 obtain ⟨q0, q1, q2, q3, q4, q5⟩ := HD3.out
 go_wp2_with fail
 go_region_held3 (fun w' => w'.cell? ⟨b, 3, none⟩ = some (.string (pt s 3)) ∧ w'.cell? ⟨w.heap.size, 1, none⟩ = some (.int .i64 m)) (first | go_keep | (refine ⟨?_, ?_⟩ <;> exact cell_later hb2 (by simp [*]))) ((go_at_call 227; refine (rholds_x _ 3 m _ z HZ.out (HP.out.sz hs 3 (by decide)) m1 m2 (HP.out.fl 3 (by decide))).mono ?_; rintro e w4 ⟨rfl, hb2⟩))
 rename Below _ _ _ => hb2
 have BB3 : Below w3.heap.size w3 w4 := (Below.refl _ _).drew.trans hb2
 have HD4 : Hid (DateAt w4 w.heap.size y m d h i k) := HD3.out.later BB3
 have C4 : Hid (∀ (t : Nat), t < 5 → w4.cell? ⟨b, t, none⟩ = some (.string (pt s t))) := fun t ht => cell_later BB3 (C3.out t ht)
 have B4 : Hid (Below w.heap.size w w4) := B3.out.trans (BB3.mono (Nat.le_of_lt hz3))
 have hz4 : w.heap.size < w4.heap.size := Nat.lt_of_lt_of_le hz3 BB3.size
 clear hb2 BB3 C3 HD3 c3 q0 q1 q2 q3 q4 q5 HZ
 cases x
 ·have D : Hid (false = dueB s m d h i k) := by unfold Hid; rw [HD.out]; rfl
  clear HD
  go_wp2_with fail
  go_ret
  exact ⟨ret_bool' D.out, B4.out⟩
 cases y'
 ·have D : Hid (false = dueB s m d h i k) := by unfold Hid; rw [HD.out]; rfl
  clear HD
  go_wp2_with fail
  go_ret
  exact ⟨ret_bool' D.out, B4.out⟩
 cases z
 ·have D : Hid (false = dueB s m d h i k) := by unfold Hid; rw [HD.out]; rfl
  clear HD
  go_wp2_with fail
  go_ret
  exact ⟨ret_bool' D.out, B4.out⟩
 have c4 := C4.out 2 (by decide)
 obtain ⟨q0, q1, q2, q3, q4, q5⟩ := HD4.out
 go_wp2_with fail
 go_region_held3 (fun w' => w'.cell? ⟨b, 2, none⟩ = some (.string (pt s 2)) ∧ w'.cell? ⟨w.heap.size, 2, none⟩ = some (.int .i64 d)) (first | go_keep | (refine ⟨?_, ?_⟩ <;> exact cell_later hb2 (by simp [*]))) ((go_at_call 227; refine (rholds_x _ 2 d _ u HU.out (HP.out.sz hs 2 (by decide)) d1 d2 (HP.out.fl 2 (by decide))).mono ?_; rintro e w5 ⟨rfl, hb2⟩))
 rename Below _ _ _ => hb2
 have BB4 : Below w4.heap.size w4 w5 := (Below.refl _ _).drew.trans hb2
 have HD5 : Hid (DateAt w5 w.heap.size y m d h i k) := HD4.out.later BB4
 have C5 : Hid (∀ (t : Nat), t < 5 → w5.cell? ⟨b, t, none⟩ = some (.string (pt s t))) := fun t ht => cell_later BB4 (C4.out t ht)
 have B5 : Hid (Below w.heap.size w w5) := B4.out.trans (BB4.mono (Nat.le_of_lt hz4))
 have hz5 : w.heap.size < w5.heap.size := Nat.lt_of_lt_of_le hz4 BB4.size
 clear hb2 BB4 C4 HD4 c4 q0 q1 q2 q3 q4 q5 HU
 have c5 := C5.out 4 (by decide)
 obtain ⟨q0, q1, q2, q3, q4, q5⟩ := HD5.out
 go_wp2_with fail
 go_region_held3 (fun w' => w'.cell? ⟨b, 4, none⟩ = some (.string (pt s 4)) ∧ w'.cell? ⟨w.heap.size, 5, none⟩ = some (.int .i64 k)) (first | go_keep | (refine ⟨?_, ?_⟩ <;> exact cell_later hb2 (by simp [*]))) ((go_at_call 227; refine (rholds_x _ 4 k _ v HV.out (HP.out.sz hs 4 (by decide)) k1 k2 (HP.out.fl 4 (by decide))).mono ?_; rintro e w6 ⟨rfl, hb2⟩))
 rename Below _ _ _ => hb2
 have BB5 : Below w5.heap.size w5 w6 := (Below.refl _ _).drew.trans hb2
 have HD6 : Hid (DateAt w6 w.heap.size y m d h i k) := HD5.out.later BB5
 have C6 : Hid (∀ (t : Nat), t < 5 → w6.cell? ⟨b, t, none⟩ = some (.string (pt s t))) := fun t ht => cell_later BB5 (C5.out t ht)
 have B6 : Hid (Below w.heap.size w w6) := B5.out.trans (BB5.mono (Nat.le_of_lt hz5))
 have hz6 : w.heap.size < w6.heap.size := Nat.lt_of_lt_of_le hz5 BB5.size
 clear hb2 BB5 C5 HD5 c5 q0 q1 q2 q3 q4 q5 HV
 have p2 : 0 < (pt s 2).size := fld_pos (lohi _).1 (HP.out.fl 2 (by decide))
 have p4 : 0 < (pt s 4).size := fld_pos (lohi _).1 (HP.out.fl 4 (by decide))
 have e2 := C6.out 2 (by decide)
 have e4 := C6.out 4 (by decide)
 cases ho2 : Txt.opn (pt s 2)
 ·have g2 : (((pt s 2)[0].toNat : Int) == 42) = false := by rw [← Txt.opn_at p2]; exact ho2
  cases ho4 : Txt.opn (pt s 4)
  ·have g4 : (((pt s 4)[0].toNat : Int) == 42) = false := by rw [← Txt.opn_at p4]; exact ho4
   have D : Hid ((u || v) = dueB s m d h i k) := by unfold Hid; rw [HD.out, ho2, ho4]; rfl
   clear HD
   cases u
   ·go_wp2_with fail
    go_ret
    exact ⟨ret_bool' D.out, B6.out⟩
   ·go_wp2_with fail
    go_ret
    exact ⟨ret_bool' D.out, B6.out⟩
  ·have g4 : (((pt s 4)[0].toNat : Int) == 42) = true := by rw [← Txt.opn_at p4]; exact ho4
   have D : Hid ((u && v) = dueB s m d h i k) := by unfold Hid; rw [HD.out, ho2, ho4]; rfl
   clear HD
   cases u
   ·go_wp2_with fail
    go_ret
    exact ⟨ret_bool' D.out, B6.out⟩
   ·go_wp2_with fail
    go_ret
    exact ⟨ret_bool' D.out, B6.out⟩
 ·have g2 : (((pt s 2)[0].toNat : Int) == 42) = true := by rw [← Txt.opn_at p2]; exact ho2
  have D : Hid ((u && v) = dueB s m d h i k) := by unfold Hid; rw [HD.out, ho2]; rfl
  clear HD
  cases u
  ·go_wp2_with fail
   go_ret
   exact ⟨ret_bool' D.out, B6.out⟩
  ·go_wp2_with fail
   go_ret
   exact ⟨ret_bool' D.out, B6.out⟩
end Go.Proofs.YtdajolpoiffimaaGreatDoor

namespace Go.Proofs.YtdajolpoiffimaaGreatDoor
open Go.RowKit

set_option maxHeartbeats 400000 in
theorem after_a (y m d h i k : Int) (w : World) (i1 : 0 ≤ i) (hc : i < 59) :
 Calls Tryz.prog 217 #[dateV y m d h i k] w fun e w' => e = .returned (dateV y m d h (i + 1) k) ∧ Below w.heap.size w w' := by
 have q : i + 1 < 60 := by omega
 go_enter Tryz.func217, Tryz.ntmps217
 go_wp2_with fail
 exact bodyPost_ret (v := dateV y m d h (i + 1) k) (by simp [results, Tryz.results217, go_sem]) rfl ⟨rfl, (below_alloc _ _).alloc (by simp) _⟩

set_option maxHeartbeats 400000 in
theorem after_b (y m d h i k : Int) (w : World) (h1 : 0 ≤ h) (hd : h < 23) (hi : i = 59) :
 Calls Tryz.prog 217 #[dateV y m d h i k] w fun e w' => e = .returned (dateV y m d (h + 1) 0 k) ∧ Below w.heap.size w w' := by
 have q : h + 1 < 24 := by omega
 subst hi
 go_enter Tryz.func217, Tryz.ntmps217
 go_wp2_with fail
 exact bodyPost_ret (v := dateV y m d (h + 1) 0 k) (by simp [results, Tryz.results217, go_sem]) rfl ⟨rfl, (below_alloc _ _).alloc (by simp) _⟩

/-- The world behind the question how long the month is: the date, the answer's block. -/
structure AftIn (w W : World) (y m d k : Int) : Prop where
 bel : Below w.heap.size w W
 D : DateAt W w.heap.size y m d 0 0 k
 E : DateAt W (w.heap.size + 1) 0 0 0 0 0 0
 f : ∀ j : Nat, j < 6 → W.frozen? ⟨w.heap.size, j, none⟩ = false ∧ W.frozen? ⟨w.heap.size + 1, j, none⟩ = false
theorem aft_new (w : World) (y m d k : Int) (t : TypeId) (n : Nat) : AftIn w (((w.alloc (.cells #[.int .i64 y, .int .i64 m, .int .i64 d, .int .i64 0, .int .i64 0, .int .i64 k] t)).alloc (.cells #[.int .i64 0, .int .i64 0, .int .i64 0, .int .i64 0, .int .i64 0, .int .i64 0] t)).drewN n) y m d k :=
 ⟨below_drewN ((below_alloc _ _).alloc (by simp) _) _, by simp [DateAt, go_sem], by simp [DateAt, go_sem], fun j _ => ⟨by simp [go_sem], by simp [go_sem]⟩⟩

set_option maxHeartbeats 1000000 in
theorem after_c (y m d h i k : Int) (w : World) (y1 : 0 ≤ y) (y2 : y ≤ 20000) (d1 : 1 ≤ d) (k1 : 0 ≤ k) (k2 : k ≤ 6) (hh : h = 23) (hi : i = 59) (he : d < Cal.dim y m) (hd : Cal.dim y m ≤ 31) :
 Calls Tryz.prog 217 #[dateV y m d h i k] w fun e w' => e = .returned (dateV y m (d + 1) 0 0 ((k + 1) % 7)) ∧ Below w.heap.size w w' := by
 have q : d + 1 ≤ Cal.dim y m := by omega
 subst hi
 subst hh
 go_enter Tryz.func217, Tryz.ntmps217
 go_wp2_with fail
 go_quiet ((go_at_call 228; exact Calls.quiet_of_same (monthLong_any _ _ _ (by omega) (by omega))))
 have A := aft_new w y m (d + 1) ((k + 1) % 7) 227 nq
 generalize ((w.alloc (.cells #[.int .i64 y, .int .i64 m, .int .i64 (d + 1), .int .i64 0, .int .i64 0, .int .i64 ((k + 1) % 7)] 227)).alloc (.cells #[.int .i64 0, .int .i64 0, .int .i64 0, .int .i64 0, .int .i64 0, .int .i64 0] 227)).drewN nq = W at *
 obtain ⟨bel, ⟨c0, c1, c2, c3, c4, c5⟩, ⟨r0, r1, r2, r3, r4, r5⟩, f⟩ := A
 have BB : Hid (Below w.heap.size w W) := bel
 obtain ⟨f0, g0⟩ := f 0 (by decide)
 obtain ⟨f1, g1⟩ := f 1 (by decide)
 obtain ⟨f2, g2⟩ := f 2 (by decide)
 obtain ⟨f3, g3⟩ := f 3 (by decide)
 obtain ⟨f4, g4⟩ := f 4 (by decide)
 obtain ⟨f5, g5⟩ := f 5 (by decide)
 clear bel f
 go_wp2_with fail
 refine bodyPost_ret (v := dateV y m (d + 1) 0 0 ((k + 1) % 7)) (by simp [results, Tryz.results217, go_sem, r0, r1, r2, r3, r4, r5]) rfl ⟨rfl, ?_⟩
 repeat (refine Below.setCell ?_ (by simp) _)
 exact BB.out

set_option maxHeartbeats 1000000 in
theorem after_d (y m d h i k : Int) (w : World) (y1 : 0 ≤ y) (y2 : y ≤ 20000) (d1 : 1 ≤ d) (k1 : 0 ≤ k) (k2 : k ≤ 6) (hh : h = 23) (hi : i = 59) (he : d = Cal.dim y m) (m1 : 1 ≤ m) (hf : m < 12) (hd : Cal.dim y m ≤ 31) :
 Calls Tryz.prog 217 #[dateV y m d h i k] w fun e w' => e = .returned (dateV y (m + 1) 1 0 0 ((k + 1) % 7)) ∧ Below w.heap.size w w' := by
 have q : ¬ d + 1 ≤ Cal.dim y m := by omega
 have d2 : d ≤ 31 := by omega
 clear he
 have q2 : ¬ 12 < m + 1 := by omega
 subst hi
 subst hh
 go_enter Tryz.func217, Tryz.ntmps217
 go_wp2_with fail
 go_quiet ((go_at_call 228; exact Calls.quiet_of_same (monthLong_any _ _ _ (by omega) (by omega))))
 have A := aft_new w y m (d + 1) ((k + 1) % 7) 227 nq
 generalize ((w.alloc (.cells #[.int .i64 y, .int .i64 m, .int .i64 (d + 1), .int .i64 0, .int .i64 0, .int .i64 ((k + 1) % 7)] 227)).alloc (.cells #[.int .i64 0, .int .i64 0, .int .i64 0, .int .i64 0, .int .i64 0, .int .i64 0] 227)).drewN nq = W at *
 obtain ⟨bel, ⟨c0, c1, c2, c3, c4, c5⟩, ⟨r0, r1, r2, r3, r4, r5⟩, f⟩ := A
 have BB : Hid (Below w.heap.size w W) := bel
 obtain ⟨f0, g0⟩ := f 0 (by decide)
 obtain ⟨f1, g1⟩ := f 1 (by decide)
 obtain ⟨f2, g2⟩ := f 2 (by decide)
 obtain ⟨f3, g3⟩ := f 3 (by decide)
 obtain ⟨f4, g4⟩ := f 4 (by decide)
 obtain ⟨f5, g5⟩ := f 5 (by decide)
 clear bel f
 go_wp2_with fail
 refine bodyPost_ret (v := dateV y (m + 1) 1 0 0 ((k + 1) % 7)) (by simp [results, Tryz.results217, go_sem, r0, r1, r2, r3, r4, r5]) rfl ⟨rfl, ?_⟩
 repeat (refine Below.setCell ?_ (by simp) _)
 exact BB.out

set_option maxHeartbeats 1000000 in
theorem after_e (y m d h i k : Int) (w : World) (y1 : 0 ≤ y) (y2 : y ≤ 20000) (d1 : 1 ≤ d) (k1 : 0 ≤ k) (k2 : k ≤ 6) (hh : h = 23) (hi : i = 59) (he : d = Cal.dim y m) (m1 : 12 ≤ m) (hf : m ≤ 12) (hd : Cal.dim y m ≤ 31) :
 Calls Tryz.prog 217 #[dateV y m d h i k] w fun e w' => e = .returned (dateV (y + 1) 1 1 0 0 ((k + 1) % 7)) ∧ Below w.heap.size w w' := by
 have q : ¬ d + 1 ≤ Cal.dim y m := by omega
 have d2 : d ≤ 31 := by omega
 clear he
 have q2 : 12 < m + 1 := by omega
 subst hi
 subst hh
 go_enter Tryz.func217, Tryz.ntmps217
 go_wp2_with fail
 go_quiet ((go_at_call 228; exact Calls.quiet_of_same (monthLong_any _ _ _ (by omega) (by omega))))
 have A := aft_new w y m (d + 1) ((k + 1) % 7) 227 nq
 generalize ((w.alloc (.cells #[.int .i64 y, .int .i64 m, .int .i64 (d + 1), .int .i64 0, .int .i64 0, .int .i64 ((k + 1) % 7)] 227)).alloc (.cells #[.int .i64 0, .int .i64 0, .int .i64 0, .int .i64 0, .int .i64 0, .int .i64 0] 227)).drewN nq = W at *
 obtain ⟨bel, ⟨c0, c1, c2, c3, c4, c5⟩, ⟨r0, r1, r2, r3, r4, r5⟩, f⟩ := A
 have BB : Hid (Below w.heap.size w W) := bel
 obtain ⟨f0, g0⟩ := f 0 (by decide)
 obtain ⟨f1, g1⟩ := f 1 (by decide)
 obtain ⟨f2, g2⟩ := f 2 (by decide)
 obtain ⟨f3, g3⟩ := f 3 (by decide)
 obtain ⟨f4, g4⟩ := f 4 (by decide)
 obtain ⟨f5, g5⟩ := f 5 (by decide)
 clear bel f
 have q1 : (((W.setCell ⟨w.heap.size, 2, none⟩ (.int .i64 1)).setCell ⟨w.heap.size, 1, none⟩ (.int .i64 (m + 1))).setCell ⟨w.heap.size, 1, none⟩ (.int .i64 1)).cell? ⟨w.heap.size, 1, none⟩ = some (.int .i64 1) :=
  World.cell?_setCell_same' _ _ _ (by rw [World.cell?_setCell_same' _ _ _ (by rw [World.cell?_setCell_other _ _ _ _ (by simp), c1]; rfl)]; rfl)
 go_wp2_with fail
 refine bodyPost_ret (v := dateV (y + 1) 1 1 0 0 ((k + 1) % 7)) (by simp [results, Tryz.results217, go_sem, r0, r1, r2, r3, r4, r5]) rfl ⟨rfl, ?_⟩
 repeat (refine Below.setCell ?_ (by simp) _)
 exact BB.out

end Go.Proofs.YtdajolpoiffimaaGreatDoor

namespace Go.Proofs.YtdajolpoiffimaaGreatDoor
open Go.RowKit

/-- A state as a value: its slots' and its ends' slices. -/
abbrev stV (s : Bx.St) (sl en : Value) : Value := .agg #[.string s.tab, .int .i64 s.clock, .int .i64 s.next, sl, en]
/-- A state lies in memory. -/
structure StAt (w : World) (s : Bx.St) (sl en : Value) : Prop where
 sl : TRow w 167 sl s.slots.length (s.slots.flatMap slC)
 en : TRow w 95 en s.ends.length (s.ends.flatMap enC)
theorem StAt.set {w : World} {s : Bx.St} {sl en : Value} (h : StAt w s sl en) {g : Nat} {e : TypeId} (hg : Typed w g e) (h1 : 167 ≠ e) (h2 : 95 ≠ e) (o : Nat) (u : Value) : StAt (w.setCell ⟨g, o, none⟩ u) s sl en := ⟨h.sl.set hg h1 o u, h.en.set hg h2 o u⟩
theorem StAt.later {w w' : World} {s : Bx.St} {sl en : Value} (h : StAt w s sl en) (hb : Below w.heap.size w w') : StAt w' s sl en := ⟨h.sl.later hb, h.en.later hb⟩

/-- The block that a state is laid in. -/
abbrev stO (s : Bx.St) (sl en : Value) : Obj := .cells #[.string s.tab, .int .i64 s.clock, .int .i64 s.next, sl, en] 104
structure StIn (W : World) (q : Nat) (s : Bx.St) (sl en : Value) : Prop where
 c0 : W.cell? ⟨q, 0, none⟩ = some (.string s.tab)
 c1 : W.cell? ⟨q, 1, none⟩ = some (.int .i64 s.clock)
 c2 : W.cell? ⟨q, 2, none⟩ = some (.int .i64 s.next)
 c3 : W.cell? ⟨q, 3, none⟩ = some sl
 c4 : W.cell? ⟨q, 4, none⟩ = some en
theorem StIn.new (w : World) (s : Bx.St) (sl en : Value) : StIn (w.alloc (stO s sl en)) w.heap.size s sl en := ⟨by simp [go_sem], by simp [go_sem], by simp [go_sem], by simp [go_sem], by simp [go_sem]⟩
theorem StIn.later {W W' : World} {q : Nat} {s : Bx.St} {sl en : Value} (h : StIn W q s sl en) (hb : Below W.heap.size W W') : StIn W' q s sl en :=
 ⟨cell_later hb h.c0, cell_later hb h.c1, cell_later hb h.c2, cell_later hb h.c3, cell_later hb h.c4⟩

theorem findK_hit {l : List Bx.Sl} {n : Int} {k : Nat} (h : k < l.length) (e : (l[k].num == n) = true) : Bx.findK l n (k + 1) = k := by
 have : l[k].num = n := by simpa using e
 simp [Bx.findK, h, this]
theorem findK_miss {l : List Bx.Sl} {n : Int} {k : Nat} (h : k < l.length) (e : (l[k].num == n) = false) : Bx.findK l n (k + 1) = Bx.findK l n k := by
 have : ¬ l[k].num = n := by simpa using e
 simp [Bx.findK, h, this]

set_option maxHeartbeats 1000000 in
theorem find_any (s : Bx.St) (n : Int) (sl en : Value) (w : World) (hl : s.slots.length ≤ 10000) (hS : StAt w s sl en) :
 Calls Tryz.prog 94 #[stV s sl en, .int .i64 n] w fun e w' => e = .returned (.int .i64 (Bx.find s n)) ∧ Below w.heap.size w w' := by
 obtain ⟨ad, cap, rfl, hcap⟩ := hS.sl.form
 obtain ⟨ad2, cap2, rfl, hcap2⟩ := hS.en.form
 have HR : Hid (RowAt w (.slice ad s.slots.length cap) s.slots.length (s.slots.flatMap slC)) := hS.sl.1
 clear hS
 go_enter Tryz.func94, Tryz.ntmps94
 go_wp2_with fail
 have hb0 := below_alloc w (stO s (.slice ad s.slots.length cap) (.slice ad2 s.ends.length cap2))
 have hI := StIn.new w s (.slice ad s.slots.length cap) (.slice ad2 s.ends.length cap2)
 have HR' := HR.out.later hb0
 clear HR
 generalize w.alloc (stO s (.slice ad s.slots.length cap) (.slice ad2 s.ends.length cap2)) = W at *
 have HR : Hid (RowAt W (.slice ad s.slots.length cap) s.slots.length (s.slots.flatMap slC)) := HR'
 have HB : Hid (Below w.heap.size w W) := hb0
 have c3 := hI.c3
 clear hI HR' hb0
 go_loop [5, 6] (fun a i => ∃ k : Nat, k ≤ s.slots.length ∧ i = .int .i64 k ∧ a = .int .i64 (Bx.findK s.slots n k)) (fun _ i => s.slots.length - (intOf i).toNat)
 case atStart => exact ⟨0, Nat.zero_le _, rfl, rfl⟩
 case round =>
  obtain ⟨k, hk, rfl, rfl⟩ := hrel
  by_cases hlt : k < s.slots.length
  ·obtain ⟨b, off, cap', hv, _, hc⟩ := HR.out.some' (by omega)
   cases hv
   have c0 : W.cell? ⟨b, off + k * 6, none⟩ = some (.int .i64 s.slots[k].num) := RowAt.cell slC_len hc k hlt 0 (by decide)
   clear hc
   have b1 : (0 : Int) ≤ (k : Int) := by omega
   have b2 : (k : Int) < (s.slots.length : Int) := by omega
   cases he : (s.slots[k].num == n)
   ·have HF : Hid (Bx.findK s.slots n (k + 1) = Bx.findK s.slots n k) := findK_miss hlt he
    generalize s.slots[k].num = x at *
    go_wp2_with fail
    go_round
    case rel => exact ⟨k + 1, by omega, by go_num, by rw [HF.out]⟩
    case measure => simp [intOf]; omega
   ·have HF : Hid (Bx.findK s.slots n (k + 1) = k) := findK_hit hlt he
    generalize s.slots[k].num = x at *
    go_wp2_with fail
    go_round
    case rel => exact ⟨k + 1, by omega, by go_num, by rw [HF.out]⟩
    case measure => simp [intOf]; omega
  ·obtain rfl : k = s.slots.length := by omega
   go_wp2_with fail
   go_ret
   exact ⟨rfl, HB.out⟩
end Go.Proofs.YtdajolpoiffimaaGreatDoor

namespace Go.Proofs.YtdajolpoiffimaaGreatDoor
open Go.RowKit

set_option maxHeartbeats 1000000 in
theorem options_any (s : ByteArray) (w : World) (hs : s.size ≤ 300) (hP : LineP s) :
 Calls Tryz.prog 199 #[.string s] w fun e w' => e = .returned (.tuple #[.bool (ob s 0 == 120), .int .u8 (ob s 1), .int .i64 (ob s 2 - 48)]) ∧ Below w.heap.size w w' := by
 obtain ⟨hz, _, _, o1, o2⟩ := opt_of hP
 have h7 := hP.n7
 have h11 := hP.n11
 clear hP
 go_enter Tryz.func199, Tryz.ntmps199
 go_wp2_with fail
 refine (parts_any _ _ _ hs).mono ?_
 rintro e w1 ⟨⟨b, cap, rfl, hge, hcap, hS⟩, hb⟩
 have c : w1.cell? ⟨b, 5, none⟩ = some (.string (pt s 5)) := by rw [← pt_eq (by omega)]; exact hS 5 (by omega)
 clear hS
 have e0 := ob_at (s := s) (i := 0) (by omega)
 have e1 := ob_at (s := s) (i := 1) (by omega)
 have e2 := ob_at (s := s) (i := 2) (by omega)
 go_wp2_with fail
 go_quiet (fail)
 go_wp2_with fail
 go_ret3
 exact ⟨rfl, below_drewN hb _⟩

set_option maxHeartbeats 1000000 in
theorem ahead_any (s : Bx.St) (m : Int) (sl en : Value) (w : World) (hc1 : -1 ≤ s.clock) (hc2 : s.clock ≤ 4223371679) (hS : StAt w s sl en) :
 Calls Tryz.prog 136 #[stV s sl en, .int .i64 m] w fun e w' => e = .returned (.bool (Bx.ahead s m)) ∧ Below w.heap.size w w' := by
 obtain ⟨ad1, cap1, rfl, hcap⟩ := hS.sl.form
 obtain ⟨ad2, cap2, rfl, hcap2⟩ := hS.en.form
 clear hS
 obtain ⟨a, ha⟩ : ∃ a : Bool, a = Bx.ahead s m := ⟨_, rfl⟩
 have HA : Hid (a = decide (0 ≤ m ∧ m ≤ 4223371679 ∧ s.clock < m ∧ (s.clock = -1 ∨ m - s.clock ≤ 1500))) := ha
 rw [← ha]
 clear ha
 go_enter Tryz.func136, Tryz.ntmps136
 go_wp2_with fail
 refine (isMinute_any _ _).mono ?_
 rintro e w1 ⟨rfl, rfl⟩
 have hb0 : Hid (Below w.heap.size w _) := below_alloc w (stO s (.slice ad1 s.slots.length cap1) (.slice ad2 s.ends.length cap2))
 have hI := StIn.new w s (.slice ad1 s.slots.length cap1) (.slice ad2 s.ends.length cap2)
 generalize w.alloc (stO s (.slice ad1 s.slots.length cap1) (.slice ad2 s.ends.length cap2)) = W at *
 have c1 := hI.c1
 clear hI
 obtain ⟨t, ht⟩ : ∃ t : Int, t = s.clock := ⟨_, rfl⟩
 rw [← ht] at HA c1 hc1 hc2
 clear ht
 by_cases h1 : 0 ≤ m ∧ m ≤ 4223371679
 ·rw [minB_yes h1.1 h1.2]
  obtain ⟨h1, h2⟩ := h1
  by_cases h3 : t < m
  ·have q3 : decide (t < m) = true := decide_eq_true h3
   by_cases h4 : t = -1
   ·have HA' : Hid (a = true) := by rw [HA.out]; exact decide_eq_true ⟨h1, h2, h3, Or.inl h4⟩
    have q4 : (t == -1) = true := by simpa using h4
    clear h4 HA
    go_wp2_with fail
    go_ret
    exact ⟨ret_bool' HA'.out.symm, hb0.out⟩
   ·have q4 : (t == -1) = false := by simpa using h4
    have q5 : IntKind.i64.wrap (m - t) = m - t := by rw [IntKind.wrap_i64]; omega
    by_cases h5 : m - t ≤ 1500
    ·have HA' : Hid (a = true) := by rw [HA.out]; exact decide_eq_true ⟨h1, h2, h3, Or.inr h5⟩
     clear h4 HA
     go_wp2_with fail
     go_ret
     exact ⟨ret_bool' HA'.out.symm, hb0.out⟩
    ·have HA' : Hid (decide (m - t ≤ 1500) = a) := by rw [HA.out, decide_eq_false h5]; exact (decide_eq_false (by omega)).symm
     clear h4 HA
     go_wp2_with fail
     go_ret
     exact ⟨ret_bool' HA'.out, hb0.out⟩
  ·have q3 : decide (t < m) = false := decide_eq_false h3
   have HA' : Hid (a = false) := by rw [HA.out]; exact decide_eq_false (by omega)
   clear HA
   go_wp2_with fail
   go_ret
   exact ⟨ret_bool' HA'.out.symm, hb0.out⟩
 ·rw [minB_no (by omega)]
  have HA' : Hid (a = false) := by rw [HA.out]; exact decide_eq_false (by omega)
  clear HA h1
  go_wp2_with fail
  go_ret
  exact ⟨ret_bool' HA'.out.symm, hb0.out⟩
end Go.Proofs.YtdajolpoiffimaaGreatDoor

namespace Go.Proofs.YtdajolpoiffimaaGreatDoor
open Go.RowKit

theorem infoSlot : (Tryz.prog.info? 167).map (fun i => (i.zero, i.size, i.bytes)) = some (some (.agg #[.int .i64 0, .int .i64 0, .int .i64 0, .int .i64 0, .int .i64 0, .bool false]), 6, 48) := by kernel_rfl
theorem skipK_hit {l : List Bx.Sl} {a : Int} {k : Nat} (e : ((k : Int) == a) = true) : Bx.skipK l a (k + 1) = Bx.skipK l a k := by
 have : (k : Int) = a := by simpa using e
 simp [Bx.skipK, this]
theorem skipK_miss {l : List Bx.Sl} {a : Int} {k : Nat} (h : k < l.length) (e : ((k : Int) == a) = false) : Bx.skipK l a (k + 1) = Bx.skipK l a k ++ [l[k]] := by
 have : ¬ (k : Int) = a := by simpa using e
 simp [Bx.skipK, this, h]

theorem own_low {w : World} {base base' : Nat} {e : TypeId} {size : Nat} {v : Value} {n : Nat} {xs : List Value} (h : w.ownsRow base e size v n xs) (hb : base' ≤ base) : w.ownsRow base' e size v n xs := by
 refine ⟨h.1, ?_⟩
 rcases h.2 with h2 | ⟨g, cap, cur, hv, hbase, h3⟩
 ·exact Or.inl h2
 ·exact Or.inr ⟨g, cap, cur, hv, Nat.le_trans hb hbase, h3⟩
/-- A slot's six cells. -/
theorem slot_cells {w : World} {L : List Bx.Sl} {b off : Nat} (c : ∀ j (h : j < (L.flatMap slC).length), w.cell? ⟨b, off + j, none⟩ = some (L.flatMap slC)[j]) (i : Nat) (hi : i < L.length) :
 w.cell? ⟨b, off + i * 6, none⟩ = some (.int .i64 L[i].num) ∧ w.cell? ⟨b, off + i * 6 + 1, none⟩ = some (.int .i64 L[i].line) ∧ w.cell? ⟨b, off + i * 6 + 2, none⟩ = some (.int .i64 L[i].minute) ∧
 w.cell? ⟨b, off + i * 6 + 3, none⟩ = some (.int .i64 L[i].att) ∧ w.cell? ⟨b, off + i * 6 + 4, none⟩ = some (.int .i64 L[i].frm) ∧ w.cell? ⟨b, off + i * 6 + 5, none⟩ = some (.bool L[i].runs) :=
 ⟨RowAt.cell slC_len c i hi 0 (by decide), RowAt.cell slC_len c i hi 1 (by decide), RowAt.cell slC_len c i hi 2 (by decide), RowAt.cell slC_len c i hi 3 (by decide), RowAt.cell slC_len c i hi 4 (by decide), RowAt.cell slC_len c i hi 5 (by decide)⟩
theorem slC_new (w : World) (x : Bx.Sl) (t : TypeId) : ∀ j u, (slC x)[j]? = some u → (w.alloc (.cells #[.int .i64 x.num, .int .i64 x.line, .int .i64 x.minute, .int .i64 x.att, .int .i64 x.frm, .bool x.runs] t)).cell? ((⟨w.heap.size, 0, none⟩ : Addr).add j) = some u := by
 intro j u hj
 match j, hj with
 | 0, hj => simp [slC] at hj; subst hj; simp [Addr.add, go_sem]
 | 1, hj => simp [slC] at hj; subst hj; simp [Addr.add, go_sem]
 | 2, hj => simp [slC] at hj; subst hj; simp [Addr.add, go_sem]
 | 3, hj => simp [slC] at hj; subst hj; simp [Addr.add, go_sem]
 | 4, hj => simp [slC] at hj; subst hj; simp [Addr.add, go_sem]
 | 5, hj => simp [slC] at hj; subst hj; simp [Addr.add, go_sem]
theorem slC_one (x : Bx.Sl) : ∀ u ∈ slC x, u.oneCell' = true := by
 intro u hu; simp [slC] at hu; rcases hu with rfl | rfl | rfl | rfl | rfl | rfl <;> rfl

set_option maxHeartbeats 1000000 in
theorem without_any (s : Bx.St) (a : Int) (sl en : Value) (w : World) (hl : s.slots.length ≤ 10000) (hS : StAt w s sl en) :
 Calls Tryz.prog 185 #[stV s sl en, .int .i64 a] w fun e w' => (∃ v, e = .returned v ∧ w'.ownsRow w.heap.size 167 6 v (Bx.withoutL s.slots a).length ((Bx.withoutL s.slots a).flatMap slC)) ∧ Below w.heap.size w w' := by
 obtain ⟨i0, hi, hz0, hz1, hz2⟩ := info_parts infoSlot
 obtain ⟨ad, cap, rfl, hcap⟩ := hS.sl.form
 obtain ⟨ad2, cap2, rfl, hcap2⟩ := hS.en.form
 have HR : Hid (RowAt w (.slice ad s.slots.length cap) s.slots.length (s.slots.flatMap slC)) := hS.sl.1
 clear hS
 go_enter Tryz.func185, Tryz.ntmps185
 go_wp2_with fail
 have hb0 := below_alloc w (stO s (.slice ad s.slots.length cap) (.slice ad2 s.ends.length cap2))
 have hI := StIn.new w s (.slice ad s.slots.length cap) (.slice ad2 s.ends.length cap2)
 have hq : w.heap.size < (w.alloc (stO s (.slice ad s.slots.length cap) (.slice ad2 s.ends.length cap2))).heap.size := by simp
 generalize w.alloc (stO s (.slice ad s.slots.length cap) (.slice ad2 s.ends.length cap2)) = W at *
 have HB : Hid (Below w.heap.size w W) := hb0
 have HR' : Hid (RowAt W (.slice ad s.slots.length cap) s.slots.length (s.slots.flatMap slC)) := HR.out.later hb0
 have HI : Hid (StIn W w.heap.size s (.slice ad s.slots.length cap) (.slice ad2 s.ends.length cap2)) := hI
 clear hI hb0
 go_loopw [5, 6] (fun v i wr => ∃ k : Nat, k ≤ s.slots.length ∧ i = .int .i64 k ∧ wr.ownsRow W.heap.size 167 6 v (Bx.skipK s.slots a k).length ((Bx.skipK s.slots a k).flatMap slC) ∧ Below W.heap.size W wr) (fun _ i _ => s.slots.length - (intOf i).toNat)
 case atStart => exact ⟨0, Nat.zero_le _, rfl, World.ownsRow_nil _ _ _ _, Below.refl _ _⟩
 case round =>
  obtain ⟨k, hk, rfl, hown, hbr⟩ := hrel
  have hsz := hbr.size
  have c3 := (HI.out.later hbr).c3
  by_cases hlt : k < s.slots.length
  ·obtain ⟨b, off, cap', hv, _, hc⟩ := (HR'.out.later hbr).some' (by omega)
   cases hv
   obtain ⟨d0, d1, d2, d3, d4, d5⟩ := slot_cells hc k hlt
   clear hc
   have b1 : (0 : Int) ≤ (k : Int) := by omega
   have b2 : (k : Int) < (s.slots.length : Int) := by omega
   cases he : ((k : Int) == a)
   ·have HF : Hid (Bx.skipK s.slots a (k + 1) = Bx.skipK s.slots a k ++ [s.slots[k]]) := skipK_miss hlt he
    have hn := Bx.skipK_len s.slots a k
    have he' : ((k : Int) != a) = true := by simp [bne, he]
    clear he
    generalize s.slots[k] = x at *
    generalize Bx.skipK s.slots a k = L at *
    go_wp2_with (at_builtin; refine wpList_append_lies _ rfl (.tmp 17) (.tmp 23) 102 rfl W.heap.size 167 i0 (.agg #[.int .i64 0, .int .i64 0, .int .i64 0, .int .i64 0, .int .i64 0, .bool false]) 6 48 Tryz.underlying102 hi hz0 hz1 hz2 rfl (by decide) _ _ _ rfl (hown.alloc _) ⟨wr.heap.size, 0, none⟩ 1 1 (slC x) rfl rfl (slC_new _ _ _) (slC_one x) (by decide) ?c3 ?c4 ?c5 _ rfl ?_)
    case c3 => unfold maxLen; omega
    case c4 => omega
    case c5 => simp; omega
    ·intro g cap1 w1 hown' hgrow _ hlt'
     have B1 : Below W.heap.size W w1 := (hbr.alloc hsz _).grown hgrow (by simp; omega) (fun k' e => (hown.lt k' e).1)
     have hown2 : w1.ownsRow W.heap.size 167 6 (.slice (some ⟨g, 0, none⟩) (L.length + 1) cap1) (L ++ [x]).length ((L ++ [x]).flatMap slC) := by simpa using hown'
     clear hown' hgrow hown hbr d0 d1 d2 d3 d4 d5 c3
     go_wp2_with fail
     go_roundw
     case rel => exact ⟨k + 1, by omega, by go_num, by rw [HF.out]; exact hown2, B1⟩
     case measure => simp [intOf]; omega
   ·have HF : Hid (Bx.skipK s.slots a (k + 1) = Bx.skipK s.slots a k) := skipK_hit he
    clear d0 d1 d2 d3 d4 d5
    have he' : ((k : Int) != a) = false := by simp [bne, he]
    clear he
    go_wp2_with fail
    go_roundw
    case rel => exact ⟨k + 1, by omega, by go_num, by rw [HF.out]; exact hown, hbr⟩
    case measure => simp [intOf]; omega
  ·obtain rfl : k = s.slots.length := by omega
   go_wp2_with fail
   go_ret
   exact ⟨⟨_, rfl, own_low hown (by omega)⟩, HB.out.trans (hbr.mono HB.out.size)⟩

abbrev slV (x : Bx.Sl) : Value := .agg #[.int .i64 x.num, .int .i64 x.line, .int .i64 x.minute, .int .i64 x.att, .int .i64 x.frm, .bool x.runs]
abbrev slO (x : Bx.Sl) : Obj := .cells #[.int .i64 x.num, .int .i64 x.line, .int .i64 x.minute, .int .i64 x.att, .int .i64 x.frm, .bool x.runs] 167
theorem putK_hit {l : List Bx.Sl} {a : Int} {x : Bx.Sl} {k : Nat} (e : ((k : Int) == a) = true) : Bx.putK l a x (k + 1) = Bx.putK l a x k ++ [x] := by
 have : (k : Int) = a := by simpa using e
 simp [Bx.putK, this]
theorem putK_miss {l : List Bx.Sl} {a : Int} {x : Bx.Sl} {k : Nat} (h : k < l.length) (e : ((k : Int) == a) = false) : Bx.putK l a x (k + 1) = Bx.putK l a x k ++ [l[k]] := by
 have : ¬ (k : Int) = a := by simpa using e
 simp [Bx.putK, this, h]
/-- A slot lies in a block of its own. -/
structure SlIn (W : World) (q : Nat) (x : Bx.Sl) : Prop where
 c0 : W.cell? ⟨q, 0, none⟩ = some (.int .i64 x.num)
 c1 : W.cell? ⟨q, 1, none⟩ = some (.int .i64 x.line)
 c2 : W.cell? ⟨q, 2, none⟩ = some (.int .i64 x.minute)
 c3 : W.cell? ⟨q, 3, none⟩ = some (.int .i64 x.att)
 c4 : W.cell? ⟨q, 4, none⟩ = some (.int .i64 x.frm)
 c5 : W.cell? ⟨q, 5, none⟩ = some (.bool x.runs)
theorem SlIn.new (w : World) (x : Bx.Sl) : SlIn (w.alloc (slO x)) w.heap.size x := ⟨by simp [go_sem], by simp [go_sem], by simp [go_sem], by simp [go_sem], by simp [go_sem], by simp [go_sem]⟩
theorem SlIn.later {W W' : World} {q : Nat} {x : Bx.Sl} (h : SlIn W q x) (hb : Below W.heap.size W W') : SlIn W' q x :=
 ⟨cell_later hb h.c0, cell_later hb h.c1, cell_later hb h.c2, cell_later hb h.c3, cell_later hb h.c4, cell_later hb h.c5⟩

set_option maxHeartbeats 2000000 in
theorem put_any (s : Bx.St) (a : Int) (x : Bx.Sl) (sl en : Value) (w : World) (hl : s.slots.length ≤ 10000) (hS : StAt w s sl en) :
 Calls Tryz.prog 107 #[stV s sl en, .int .i64 a, slV x] w fun e w' => (∃ v, e = .returned v ∧ w'.ownsRow w.heap.size 167 6 v (Bx.putL s.slots a x).length ((Bx.putL s.slots a x).flatMap slC)) ∧ Below w.heap.size w w' := by
 obtain ⟨i0, hi, hz0, hz1, hz2⟩ := info_parts infoSlot
 obtain ⟨ad, cap, rfl, hcap⟩ := hS.sl.form
 obtain ⟨ad2, cap2, rfl, hcap2⟩ := hS.en.form
 have HR : Hid (RowAt w (.slice ad s.slots.length cap) s.slots.length (s.slots.flatMap slC)) := hS.sl.1
 clear hS
 go_enter Tryz.func107, Tryz.ntmps107
 go_wp2_with fail
 have hb0 := (below_alloc w (stO s (.slice ad s.slots.length cap) (.slice ad2 s.ends.length cap2))).alloc (by simp) (slO x)
 have hI := (StIn.new w s (.slice ad s.slots.length cap) (.slice ad2 s.ends.length cap2)).later (below_alloc _ (slO x))
 have hX := SlIn.new (w.alloc (stO s (.slice ad s.slots.length cap) (.slice ad2 s.ends.length cap2))) x
 have hX' : SlIn ((w.alloc (stO s (.slice ad s.slots.length cap) (.slice ad2 s.ends.length cap2))).alloc (slO x)) (w.heap.size + 1) x := by simpa using hX
 have hq : w.heap.size + 1 < ((w.alloc (stO s (.slice ad s.slots.length cap) (.slice ad2 s.ends.length cap2))).alloc (slO x)).heap.size := by simp
 clear hX
 generalize (w.alloc (stO s (.slice ad s.slots.length cap) (.slice ad2 s.ends.length cap2))).alloc (slO x) = W at *
 have HB : Hid (Below w.heap.size w W) := hb0
 have HR' : Hid (RowAt W (.slice ad s.slots.length cap) s.slots.length (s.slots.flatMap slC)) := HR.out.later hb0
 have HI : Hid (StIn W w.heap.size s (.slice ad s.slots.length cap) (.slice ad2 s.ends.length cap2)) := hI
 have HX : Hid (SlIn W (w.heap.size + 1) x) := hX'
 clear hI hb0 hX'
 go_loopw [7, 8] (fun v i wr => ∃ k : Nat, k ≤ s.slots.length ∧ i = .int .i64 k ∧ wr.ownsRow W.heap.size 167 6 v (Bx.putK s.slots a x k).length ((Bx.putK s.slots a x k).flatMap slC) ∧ Below W.heap.size W wr) (fun _ i _ => s.slots.length - (intOf i).toNat)
 case atStart => exact ⟨0, Nat.zero_le _, rfl, World.ownsRow_nil _ _ _ _, Below.refl _ _⟩
 case round =>
  obtain ⟨k, hk, rfl, hown, hbr⟩ := hrel
  have hsz := hbr.size
  have c3 := (HI.out.later hbr).c3
  by_cases hlt : k < s.slots.length
  ·have b1 : (0 : Int) ≤ (k : Int) := by omega
   have b2 : (k : Int) < (s.slots.length : Int) := by omega
   have hn := Bx.putK_len s.slots a x k
   cases he : ((k : Int) == a)
   ·have HF : Hid (Bx.putK s.slots a x (k + 1) = Bx.putK s.slots a x k ++ [s.slots[k]]) := putK_miss hlt he
    obtain ⟨b, off, cap', hv, _, hc⟩ := (HR'.out.later hbr).some' (by omega)
    cases hv
    obtain ⟨d0, d1, d2, d3, d4, d5⟩ := slot_cells hc k hlt
    clear hc
    generalize s.slots[k] = y at *
    generalize Bx.putK s.slots a x k = L at *
    go_wp2_with (at_builtin; refine wpList_append_lies _ rfl (.tmp 23) (.tmp 29) 102 rfl W.heap.size 167 i0 (.agg #[.int .i64 0, .int .i64 0, .int .i64 0, .int .i64 0, .int .i64 0, .bool false]) 6 48 Tryz.underlying102 hi hz0 hz1 hz2 rfl (by decide) _ _ _ rfl (hown.alloc _) ⟨wr.heap.size, 0, none⟩ 1 1 (slC y) rfl rfl (slC_new _ _ _) (slC_one y) (by decide) ?c3 ?c4 ?c5 _ rfl ?_)
    case c3 => unfold maxLen; omega
    case c4 => omega
    case c5 => simp; omega
    ·intro g cap1 w1 hown' hgrow _ hlt'
     have B1 : Below W.heap.size W w1 := (hbr.alloc hsz _).grown hgrow (by simp; omega) (fun k' e => (hown.lt k' e).1)
     have hown2 : w1.ownsRow W.heap.size 167 6 (.slice (some ⟨g, 0, none⟩) (L.length + 1) cap1) (L ++ [y]).length ((L ++ [y]).flatMap slC) := by simpa using hown'
     clear hown' hgrow hown hbr d0 d1 d2 d3 d4 d5 c3
     go_wp2_with fail
     go_roundw
     case rel => exact ⟨k + 1, by omega, by go_num, by rw [HF.out]; exact hown2, B1⟩
     case measure => simp [intOf]; omega
   ·have HF : Hid (Bx.putK s.slots a x (k + 1) = Bx.putK s.slots a x k ++ [x]) := putK_hit he
    obtain ⟨d0, d1, d2, d3, d4, d5⟩ := HX.out.later hbr
    generalize Bx.putK s.slots a x k = L at *
    go_wp2_with (at_builtin; refine wpList_append_lies _ rfl (.tmp 19) (.tmp 21) 102 rfl W.heap.size 167 i0 (.agg #[.int .i64 0, .int .i64 0, .int .i64 0, .int .i64 0, .int .i64 0, .bool false]) 6 48 Tryz.underlying102 hi hz0 hz1 hz2 rfl (by decide) _ _ _ rfl (hown.alloc _) ⟨wr.heap.size, 0, none⟩ 1 1 (slC x) rfl rfl (slC_new _ _ _) (slC_one x) (by decide) ?c3 ?c4 ?c5 _ rfl ?_)
    case c3 => unfold maxLen; omega
    case c4 => omega
    case c5 => simp; omega
    ·intro g cap1 w1 hown' hgrow _ hlt'
     have B1 : Below W.heap.size W w1 := (hbr.alloc hsz _).grown hgrow (by simp; omega) (fun k' e => (hown.lt k' e).1)
     have hown2 : w1.ownsRow W.heap.size 167 6 (.slice (some ⟨g, 0, none⟩) (L.length + 1) cap1) (L ++ [x]).length ((L ++ [x]).flatMap slC) := by simpa using hown'
     clear hown' hgrow hown hbr d0 d1 d2 d3 d4 d5 c3
     go_wp2_with fail
     go_roundw
     case rel => exact ⟨k + 1, by omega, by go_num, by rw [HF.out]; exact hown2, B1⟩
     case measure => simp [intOf]; omega
  ·obtain rfl : k = s.slots.length := by omega
   go_wp2_with fail
   go_ret
   exact ⟨⟨_, rfl, own_low hown (by omega)⟩, HB.out.trans (hbr.mono HB.out.size)⟩
end Go.Proofs.YtdajolpoiffimaaGreatDoor

namespace Go.Proofs.YtdajolpoiffimaaGreatDoor
open Go.RowKit

theorem infoEnd : (Tryz.prog.info? 95).map (fun i => (i.zero, i.size, i.bytes)) = some (some (.agg #[.int .i64 0, .string ByteArray.empty]), 2, 24) := by kernel_rfl

set_option maxHeartbeats 1000000 in
theorem with_no (s : Bx.St) (lv : Value) (nl : Nat) (n : Int) (how : ByteArray) (sl en : Value) (w : World) (hn : n ≤ 0) (ad : Option Addr) (cap : Nat) (hlv : lv = .slice ad nl cap) (hS : StAt w s sl en) :
 Calls Tryz.prog 184 #[stV s sl en, lv, .int .i64 n, .string how] w fun e w' => e = .returned (stV s lv en) ∧ Below w.heap.size w w' := by
 subst hlv
 obtain ⟨ad1, cap1, rfl, hcap⟩ := hS.sl.form
 obtain ⟨ad2, cap2, rfl, hcap2⟩ := hS.en.form
 clear hS
 go_enter Tryz.func184, Tryz.ntmps184
 go_wp2_with fail
 refine bodyPost_ret (v := stV s (.slice ad nl cap) (.slice ad2 s.ends.length cap2)) (by simp [results, Tryz.results184, go_sem]) rfl ⟨rfl, ?_⟩
 exact (below_alloc _ _).alloc (by simp) _

/-- What holds while the ends are laid anew: the state at q, the answer's block behind it. -/
structure WIn (W : World) (q : Nat) (s : Bx.St) (sl en : Value) : Prop where
 st : StIn W q s sl en
 f4 : W.frozen? ⟨q, 4, none⟩ = false
 rs : ∀ j : Nat, j < 5 → (∃ u, W.cell? ⟨q + 1, j, none⟩ = some u) ∧ W.frozen? ⟨q + 1, j, none⟩ = false
theorem WIn.later {W W' : World} {q : Nat} {s : Bx.St} {sl en : Value} (h : WIn W q s sl en) (hq : q + 1 < W.heap.size) (hb : Below W.heap.size W W') : WIn W' q s sl en :=
 ⟨h.st.later hb, (hb.frozen (p := ⟨q, 4, none⟩) (by simp; omega)).trans h.f4, fun j hj => ⟨(h.rs j hj).1.elim fun u hu => ⟨u, cell_later hb hu⟩, (hb.frozen (p := ⟨q + 1, j, none⟩) hq).trans (h.rs j hj).2⟩⟩
theorem keep_take (l : List Bx.En) (d k : Nat) (h : k < l.length) : (l.take (k + 1)).drop d = if d ≤ k then (l.take k).drop d ++ [l[k]] else (l.take k).drop d := by
 rw [List.take_succ_eq_append_getElem h]
 split
 ·rw [List.drop_append_of_le_length (by simp; omega)]
 ·rw [List.drop_eq_nil_of_le (by simp; omega), List.drop_eq_nil_of_le (by simp; omega)]
theorem end_cells {w : World} {L : List Bx.En} {b off : Nat} (c : ∀ j (h : j < (L.flatMap enC).length), w.cell? ⟨b, off + j, none⟩ = some (L.flatMap enC)[j]) (i : Nat) (hi : i < L.length) :
 w.cell? ⟨b, off + i * 2, none⟩ = some (.int .i64 L[i].num) ∧ w.cell? ⟨b, off + i * 2 + 1, none⟩ = some (.string L[i].how) :=
 ⟨RowAt.cell enC_len c i hi 0 (by decide), RowAt.cell enC_len c i hi 1 (by decide)⟩
theorem enC_new (w : World) (x : Bx.En) (t : TypeId) : ∀ j u, (enC x)[j]? = some u → (w.alloc (.cells #[.int .i64 x.num, .string x.how] t)).cell? ((⟨w.heap.size, 0, none⟩ : Addr).add j) = some u := by
 intro j u hj
 match j, hj with
 | 0, hj => simp [enC] at hj; subst hj; simp [Addr.add, go_sem]
 | 1, hj => simp [enC] at hj; subst hj; simp [Addr.add, go_sem]
theorem enC_one (x : Bx.En) : ∀ u ∈ enC x, u.oneCell' = true := by
 intro u hu; simp [enC] at hu; rcases hu with rfl | rfl <;> rfl

set_option maxHeartbeats 2000000 in
theorem with_yes (s : Bx.St) (lv : Value) (nl : Nat) (n : Int) (how : ByteArray) (sl en : Value) (w : World) (hn : 0 < n) (ad : Option Addr) (cap : Nat) (hlv : lv = .slice ad nl cap) (hE : s.ends.length ≤ 10000) (hS : StAt w s sl en) :
 Calls Tryz.prog 184 #[stV s sl en, lv, .int .i64 n, .string how] w fun e w' => (∃ en', e = .returned (stV s lv en') ∧ TRow w' 95 en' (Bx.push s.ends ⟨n, how⟩).length ((Bx.push s.ends ⟨n, how⟩).flatMap enC)) ∧ Below w.heap.size w w' := by
 subst hlv
 obtain ⟨i0, hi, hz0, hz1, hz2⟩ := info_parts infoEnd
 obtain ⟨ad1, cap1, rfl, hcap⟩ := hS.sl.form
 obtain ⟨ad2, cap2, rfl, hcap2⟩ := hS.en.form
 have HR : Hid (RowAt w (.slice ad2 s.ends.length cap2) s.ends.length (s.ends.flatMap enC)) := hS.en.1
 clear hS
 go_enter Tryz.func184, Tryz.ntmps184
 go_wp2_with fail
 have hb0 := (below_alloc w (stO s (.slice ad nl cap) (.slice ad2 s.ends.length cap2))).alloc (by simp) (.cells #[.string { data := #[] }, .int .i64 0, .int .i64 0, .slice none 0 0, .slice none 0 0] 104)
 have hTy0 : Typed ((w.alloc (stO s (.slice ad nl cap) (.slice ad2 s.ends.length cap2))).alloc (.cells #[.string { data := #[] }, .int .i64 0, .int .i64 0, .slice none 0 0, .slice none 0 0] 104)) w.heap.size 104 ∧ Typed ((w.alloc (stO s (.slice ad nl cap) (.slice ad2 s.ends.length cap2))).alloc (.cells #[.string { data := #[] }, .int .i64 0, .int .i64 0, .slice none 0 0, .slice none 0 0] 104)) (w.heap.size + 1) 104 := ⟨(Typed.new w _ _).later (below_alloc _ _), by have := Typed.new (w.alloc (stO s (.slice ad nl cap) (.slice ad2 s.ends.length cap2))) #[.string { data := #[] }, .int .i64 0, .int .i64 0, .slice none 0 0, .slice none 0 0] 104; simpa using this⟩
 have hI : WIn ((w.alloc (stO s (.slice ad nl cap) (.slice ad2 s.ends.length cap2))).alloc (.cells #[.string { data := #[] }, .int .i64 0, .int .i64 0, .slice none 0 0, .slice none 0 0] 104)) w.heap.size s (.slice ad nl cap) (.slice ad2 s.ends.length cap2) := by
  refine ⟨(StIn.new w s _ _).later (below_alloc _ _), by simp [go_sem], fun j hj => ?_⟩
  have : j = 0 ∨ j = 1 ∨ j = 2 ∨ j = 3 ∨ j = 4 := by omega
  rcases this with rfl | rfl | rfl | rfl | rfl <;> simp [go_sem]
 have hq : w.heap.size + 1 < ((w.alloc (stO s (.slice ad nl cap) (.slice ad2 s.ends.length cap2))).alloc (.cells #[.string { data := #[] }, .int .i64 0, .int .i64 0, .slice none 0 0, .slice none 0 0] 104)).heap.size := by simp
 generalize (w.alloc (stO s (.slice ad nl cap) (.slice ad2 s.ends.length cap2))).alloc (.cells #[.string { data := #[] }, .int .i64 0, .int .i64 0, .slice none 0 0, .slice none 0 0] 104) = W at *
 have HTy : Hid (Typed W w.heap.size 104 ∧ Typed W (w.heap.size + 1) 104) := hTy0
 clear hTy0
 have HB : Hid (Below w.heap.size w W) := hb0
 have HR' : Hid (RowAt W (.slice ad2 s.ends.length cap2) s.ends.length (s.ends.flatMap enC)) := HR.out.later hb0
 have HI : Hid (WIn W w.heap.size s (.slice ad nl cap) (.slice ad2 s.ends.length cap2)) := hI
 clear hI hb0
 go_loopw [9, 10] (fun v i wr => ∃ k : Nat, k ≤ s.ends.length ∧ i = .int .i64 k ∧ wr.ownsRow W.heap.size 95 2 v ((s.ends.take k).drop (s.ends.length - 5)).length (((s.ends.take k).drop (s.ends.length - 5)).flatMap enC) ∧ Below W.heap.size W wr) (fun _ i _ => s.ends.length - (intOf i).toNat)
 case atStart => exact ⟨0, Nat.zero_le _, rfl, by simpa using World.ownsRow_nil _ _ _ _, Below.refl _ _⟩
 case round =>
  obtain ⟨k, hk, rfl, hown, hbr⟩ := hrel
  have hsz := hbr.size
  have hW := HI.out.later hq hbr
  have c4 := hW.st.c4
  have hln : ((s.ends.take k).drop (s.ends.length - 5)).length ≤ 10000 := by simp; omega
  by_cases hlt : k < s.ends.length
  ·have b1 : (0 : Int) ≤ (k : Int) := by omega
   have b2 : (k : Int) < (s.ends.length : Int) := by omega
   have HT : Hid _ := keep_take s.ends (s.ends.length - 5) k hlt
   clear hW
   by_cases he : s.ends.length - 5 ≤ k
   ·have HF : Hid ((s.ends.take (k + 1)).drop (s.ends.length - 5) = (s.ends.take k).drop (s.ends.length - 5) ++ [s.ends[k]]) := by
     have := HT.out; rw [if_pos he] at this; exact this
    have q1 : (s.ends.length : Int) < (k : Int) + 6 := by omega
    obtain ⟨b, off, cap', hv, _, hc⟩ := (HR'.out.later hbr).some' (by omega)
    cases hv
    obtain ⟨d0, d1⟩ := end_cells hc k hlt
    clear hc HT he
    generalize s.ends[k] = y at *
    generalize (s.ends.take k).drop (s.ends.length - 5) = L at *
    go_wp2_with (at_builtin; refine wpList_append_lies _ rfl (.tmp 28) (.tmp 34) 63 rfl W.heap.size 95 i0 (.agg #[.int .i64 0, .string ByteArray.empty]) 2 24 Tryz.underlying63 hi hz0 hz1 hz2 rfl (by decide) _ _ _ rfl (hown.alloc _) ⟨wr.heap.size, 0, none⟩ 1 1 (enC y) rfl rfl (enC_new _ _ _) (enC_one y) (by decide) ?c3 ?c4 ?c5 _ rfl ?_)
    case c3 => unfold maxLen; omega
    case c4 => omega
    case c5 => simp; omega
    ·intro g cap1 w1 hown' hgrow _ hlt'
     have B1 : Below W.heap.size W w1 := (hbr.alloc hsz _).grown hgrow (by simp; omega) (fun k' e => (hown.lt k' e).1)
     have hown2 : w1.ownsRow W.heap.size 95 2 (.slice (some ⟨g, 0, none⟩) (L.length + 1) cap1) (L ++ [y]).length ((L ++ [y]).flatMap enC) := by simpa using hown'
     clear hown' hgrow hown hbr d0 d1 c4
     go_wp2_with fail
     go_roundw
     case rel => exact ⟨k + 1, by omega, by go_num, by rw [HF.out]; exact hown2, B1⟩
     case measure => simp [intOf]; omega
   ·have HF : Hid ((s.ends.take (k + 1)).drop (s.ends.length - 5) = (s.ends.take k).drop (s.ends.length - 5)) := by
     have := HT.out; rw [if_neg he] at this; exact this
    have q1 : ¬ (s.ends.length : Int) < (k : Int) + 6 := by omega
    clear HT he
    go_wp2_with fail
    go_roundw
    case rel => exact ⟨k + 1, by omega, by go_num, by rw [HF.out]; exact hown, hbr⟩
    case measure => simp [intOf]; omega
  ·obtain rfl : k = s.ends.length := by omega
   rw [List.take_length] at hown hln
   have hl6 : (s.ends.drop (s.ends.length - 5)).length ≤ 10000 := hln
   have c0 := hW.st.c0
   have c1 := hW.st.c1
   have c2 := hW.st.c2
   have c3 := hW.st.c3
   have HP : Hid (Bx.push s.ends ⟨n, how⟩ = s.ends.drop (s.ends.length - 5) ++ [⟨n, how⟩]) := rfl
   generalize s.ends.drop (s.ends.length - 5) = L at *
   go_wp2_with (at_builtin; refine wpList_append_lies _ rfl (.tmp 36) (.tmp 40) 63 rfl W.heap.size 95 i0 (.agg #[.int .i64 0, .string ByteArray.empty]) 2 24 Tryz.underlying63 hi hz0 hz1 hz2 rfl (by decide) _ _ _ rfl (hown.alloc _) ⟨wr.heap.size, 0, none⟩ 1 1 (enC ⟨n, how⟩) rfl rfl (enC_new _ _ _) (enC_one ⟨n, how⟩) (by decide) ?c3 ?c4 ?c5 _ rfl ?_)
   case c3 => unfold maxLen; omega
   case c4 => omega
   case c5 => simp; omega
   ·intro g cap1 w1 hown' hgrow _ hlt'
    have B1 : Below W.heap.size W w1 := (hbr.alloc hsz _).grown hgrow (by simp; omega) (fun k' e => (hown.lt k' e).1)
    have hge : W.heap.size ≤ g := by
     rcases hown'.2 with ⟨h, _⟩ | ⟨g', cap', cur, h, h3, _⟩
     ·cases h
     ·cases h; exact h3
    have HRow : Hid (TRow w1 95 (.slice (some ⟨g, 0, none⟩) (L.length + 1) cap1) (L.length + 1) (L.flatMap enC ++ enC ⟨n, how⟩)) := TRow.of_own hown'
    have hTy : Typed w1 w.heap.size 104 ∧ Typed w1 (w.heap.size + 1) 104 := ⟨HTy.out.1.below (by omega) B1, HTy.out.2.below (by omega) B1⟩
    have hW1 := HI.out.later hq B1
    have HB1 : Hid (Below w.heap.size w w1) := HB.out.trans (B1.mono HB.out.size)
    have hq1 : w.heap.size + 1 < w1.heap.size := by have := B1.size; omega
    clear hown' hgrow hown hbr c0 c1 c2 c3 c4 B1 hW
    obtain ⟨⟨c0, c1, c2, c3, c4⟩, f4, rs⟩ := hW1
    obtain ⟨⟨u0, r0⟩, g0⟩ := rs 0 (by decide)
    obtain ⟨⟨u1, r1⟩, g1⟩ := rs 1 (by decide)
    obtain ⟨⟨u2, r2⟩, g2⟩ := rs 2 (by decide)
    obtain ⟨⟨u3, r3⟩, g3⟩ := rs 3 (by decide)
    obtain ⟨⟨u4, r4⟩, g4⟩ := rs 4 (by decide)
    clear rs
    go_wp2_with fail
    refine bodyPost_ret (v := stV s (.slice ad nl cap) (.slice (some ⟨g, 0, none⟩) (L.length + 1) cap1)) (by simp [results, Tryz.results184, go_sem, r0, r1, r2, r3, r4]) rfl ⟨⟨_, rfl, ?_⟩, ?_⟩
    ·rw [HP.out]
     have e1 : (L ++ [(⟨n, how⟩ : Bx.En)]).length = L.length + 1 := by simp
     have e2 : (L ++ [(⟨n, how⟩ : Bx.En)]).flatMap enC = L.flatMap enC ++ enC ⟨n, how⟩ := by simp
     rw [e1, e2]
     refine TRow.set ?_ (((((hTy.2.setCell _ _ _).setCell _ _ _).setCell _ _ _).setCell _ _ _).setCell _ _ _) (by decide) _ _
     refine TRow.set ?_ ((((hTy.2.setCell _ _ _).setCell _ _ _).setCell _ _ _).setCell _ _ _) (by decide) _ _
     refine TRow.set ?_ (((hTy.2.setCell _ _ _).setCell _ _ _).setCell _ _ _) (by decide) _ _
     refine TRow.set ?_ ((hTy.2.setCell _ _ _).setCell _ _ _) (by decide) _ _
     refine TRow.set ?_ (hTy.2.setCell _ _ _) (by decide) _ _
     exact TRow.set HRow.out hTy.1 (by decide) _ _
    ·exact (((((HB1.out.setCell (by simp) _).setCell (by simp) _).setCell (by simp) _).setCell (by simp) _).setCell (by simp) _).setCell (by simp) _
end Go.Proofs.YtdajolpoiffimaaGreatDoor

namespace Go.Proofs.YtdajolpoiffimaaGreatDoor
open Go.RowKit

theorem after_any (t y m d h i k : Int) (w : World) (t0 : 0 ≤ t) (t1 : t ≤ 4223371679) (H : DtIs t y m d h i k) :
 Calls Tryz.prog 217 #[dateV y m d h i k] w fun e w' => (∃ y' m' d' h' i' k', e = .returned (dateV y' m' d' h' i' k') ∧ DtIs (t + 1) y' m' d' h' i' k') ∧ Below w.heap.size w w' := by
 obtain ⟨HA, rfl, rfl, rfl⟩ := H t1
 have hdl := Cal.dim_lo y m
 have a1 := HA.y1; have a2 := HA.y2; have a3 := HA.m1; have a4 := HA.m2; have a5 := HA.d1; have a6 := HA.d2; have a7 := HA.num
 by_cases hc : t % 60 < 59
 ·refine (after_a _ _ _ _ _ _ w (by omega) hc).mono ?_
  rintro e w1 ⟨rfl, hb⟩
  refine ⟨⟨_, _, _, _, _, _, rfl, fun _ => ⟨?_, by omega, by omega, by omega⟩⟩, hb⟩
  have e1 : (t + 1) / 1440 = t / 1440 := by omega
  rw [e1]; exact HA
 by_cases hd : t % 1440 / 60 < 23
 ·refine (after_b _ _ _ _ _ _ w (by omega) hd (by omega)).mono ?_
  rintro e w1 ⟨rfl, hb⟩
  refine ⟨⟨_, _, _, _, _, _, rfl, fun _ => ⟨?_, by omega, by omega, by omega⟩⟩, hb⟩
  have e1 : (t + 1) / 1440 = t / 1440 := by omega
  rw [e1]; exact HA
 have e1 : (t + 1) / 1440 = t / 1440 + 1 := by omega
 by_cases he : d < Cal.dim y m
 ·refine (after_c _ _ _ _ _ _ w (by omega) (by omega) a5 (by omega) (by omega) (by omega) (by omega) he (by omega)).mono ?_
  rintro e w1 ⟨rfl, hb⟩
  refine ⟨⟨_, _, _, _, _, _, rfl, fun _ => ⟨?_, by omega, by omega, by omega⟩⟩, hb⟩
  rw [e1]; exact ⟨a1, a2, a3, a4, by omega, by omega, by omega⟩
 by_cases hf : m < 12
 ·refine (after_d _ _ _ _ _ _ w (by omega) (by omega) a5 (by omega) (by omega) (by omega) (by omega) (by omega) a3 hf (by omega)).mono ?_
  rintro e w1 ⟨rfl, hb⟩
  refine ⟨⟨_, _, _, _, _, _, rfl, fun _ => ⟨?_, by omega, by omega, by omega⟩⟩, hb⟩
  have := Cal.cum_succ y m a3 (by omega)
  have := Cal.dim_lo y (m + 1)
  rw [e1]; exact ⟨a1, a2, by omega, by omega, by omega, by omega, by omega⟩
 ·refine (after_e _ _ _ _ _ _ w (by omega) (by omega) a5 (by omega) (by omega) (by omega) (by omega) (by omega) (by omega) (by omega) (by omega)).mono ?_
  rintro e w1 ⟨rfl, hb⟩
  refine ⟨⟨_, _, _, _, _, _, rfl, fun h => ⟨?_, by omega, by omega, by omega⟩⟩, hb⟩
  obtain rfl : m = 12 := by omega
  have q1 : Cal.cum y 13 = Cal.cum y 12 + Cal.dim y 12 := Cal.cum_succ y 12 (by omega) (by omega)
  have q2 := Cal.cum_13 y
  have q3 := Cal.dby_succ y
  have q4 := Cal.cum_1 (y + 1)
  have q5 := Cal.dim_lo (y + 1) 1
  have q6 := Cal.dby_10000
  have : y + 1 ≤ 9999 := by
   rcases Int.lt_or_le (y + 1) 10000 with c | c
   ·omega
   ·obtain rfl : y = 9999 := by omega
    have : Cal.dby (9999 + 1) = 2932897 := q6
    omega
  rw [e1]; exact ⟨by omega, this, by omega, by omega, by omega, by omega, by omega⟩
theorem infoInt : (Tryz.prog.info? 3).map (fun i => (i.zero, i.size, i.bytes)) = some (some (.int .i64 0), 1, 8) := by kernel_rfl
/-- A date lies in a block that may be written. -/
structure DtIn (W : World) (q : Nat) (y m d h i k : Int) : Prop where
 D : DateAt W q y m d h i k
 f : ∀ j : Nat, j < 6 → W.frozen? ⟨q, j, none⟩ = false
theorem DtIn.later {W W' : World} {q : Nat} {y m d h i k : Int} (a : DtIn W q y m d h i k) (hq : q < W.heap.size) (hb : Below W.heap.size W W') : DtIn W' q y m d h i k :=
 ⟨a.D.later hb, fun j hj => (hb.frozen (p := ⟨q, j, none⟩) hq).trans (a.f j hj)⟩
theorem DtIn.below {W W' : World} {q n : Nat} {y m d h i k : Int} (a : DtIn W q y m d h i k) (hq : q < n) (hb : Below n W W') : DtIn W' q y m d h i k := by
 obtain ⟨⟨c0, c1, c2, c3, c4, c5⟩, f⟩ := a
 refine ⟨⟨?_, ?_, ?_, ?_, ?_, ?_⟩, fun j hj => (hb.frozen (p := ⟨q, j, none⟩) hq).trans (f j hj)⟩
 ·exact (hb.cell (p := ⟨q, 0, none⟩) hq).trans c0
 ·exact (hb.cell (p := ⟨q, 1, none⟩) hq).trans c1
 ·exact (hb.cell (p := ⟨q, 2, none⟩) hq).trans c2
 ·exact (hb.cell (p := ⟨q, 3, none⟩) hq).trans c3
 ·exact (hb.cell (p := ⟨q, 4, none⟩) hq).trans c4
 ·exact (hb.cell (p := ⟨q, 5, none⟩) hq).trans c5
theorem DtIn.new (w : World) (y m d h i k : Int) (t : TypeId) : DtIn (w.alloc (.cells #[.int .i64 y, .int .i64 m, .int .i64 d, .int .i64 h, .int .i64 i, .int .i64 k] t)) w.heap.size y m d h i k :=
 ⟨DateAt.new w y m d h i k t, fun j _ => by simp [go_sem]⟩
theorem DtIn.store {W : World} {q : Nat} {y m d h i k : Int} (a : DtIn W q y m d h i k) (y' m' d' h' i' k' : Int) :
 DtIn ((((((W.setCell ⟨q, 0, none⟩ (.int .i64 y')).setCell ⟨q, 1, none⟩ (.int .i64 m')).setCell ⟨q, 2, none⟩ (.int .i64 d')).setCell ⟨q, 3, none⟩ (.int .i64 h')).setCell ⟨q, 4, none⟩ (.int .i64 i')).setCell ⟨q, 5, none⟩ (.int .i64 k')) q y' m' d' h' i' k' := by
 obtain ⟨⟨c0, c1, c2, c3, c4, c5⟩, f⟩ := a
 have f0 := f 0 (by decide); have f1 := f 1 (by decide); have f2 := f 2 (by decide); have f3 := f 3 (by decide); have f4 := f 4 (by decide); have f5 := f 5 (by decide)
 refine ⟨⟨?_, ?_, ?_, ?_, ?_, ?_⟩, fun j hj => ?_⟩
 case refine_7 =>
  have : j = 0 ∨ j = 1 ∨ j = 2 ∨ j = 3 ∨ j = 4 ∨ j = 5 := by omega
  rcases this with rfl | rfl | rfl | rfl | rfl | rfl <;> simp [go_sem, f0, f1, f2, f3, f4, f5]
 all_goals simp [go_sem, c0, c1, c2, c3, c4, c5]

/-- What holds while a line's minutes are gone through. -/
structure DuesAt (s : ByteArray) (a : Int) (w wr : World) (q k : Nat) (v : Value) : Prop where
 own : wr.ownsRow (q + 1) 3 1 v (Bx.dl (dueT s) a k).length ((Bx.dl (dueT s) a k).map (Value.int .i64))
 bel : Below w.heap.size w wr
 lt : q < wr.heap.size
 dt : ∃ y m d h i k', DtIn wr q y m d h i k' ∧ DtIs (a + k) y m d h i k'

set_option maxHeartbeats 2000000 in
theorem dues_any (s : ByteArray) (a b : Int) (w : World) (hs : s.size ≤ 300) (hP : LineP s) (a0 : 0 ≤ a) (hab : a ≤ b) (b1 : b ≤ 4223371679) (hj : b - a ≤ 1600) :
 Calls Tryz.prog 200 #[.string s, .int .i64 a, .int .i64 b] w fun e w' => (∃ v, e = .returned v ∧ w'.ownsRow w.heap.size 3 1 v (Bx.dl (dueT s) a (b + 1 - a).toNat).length ((Bx.dl (dueT s) a (b + 1 - a).toNat).map (Value.int .i64))) ∧ Below w.heap.size w w' := by
 obtain ⟨i0, hi, hz0, hz1, hz2⟩ := info_parts infoInt
 have HP : Hid (LineP s) := hP
 clear hP
 obtain ⟨n, hn⟩ : ∃ n : Nat, n = (b + 1 - a).toNat := ⟨_, rfl⟩
 rw [← hn]
 have hn' : (n : Int) = b + 1 - a := by omega
 clear hn
 go_enter Tryz.func200, Tryz.ntmps200
 go_wp2_with fail
 refine (rdate_yes a _ a0 (by omega)).mono ?_
 rintro e w1 ⟨⟨y, m, d, HD, rfl⟩, hb1⟩
 have hz1' := hb1.size
 have HD' : Hid (DtIs (a + (0 : Nat)) y m d (a % 1440 / 60) (a % 60) ((a / 1440 + 4) % 7)) := by
  intro _; rw [show a + ((0 : Nat) : Int) = a by simp]; exact ⟨HD, rfl, rfl, rfl⟩
 clear HD
 generalize a % 1440 / 60 = h at *
 generalize a % 60 = i at *
 generalize (a / 1440 + 4) % 7 = k0 at *
 go_wp2_with fail
 have hI := DtIn.new w1 y m d h i k0 227
 have hbW : Below w.heap.size w (w1.alloc (.cells #[.int .i64 y, .int .i64 m, .int .i64 d, .int .i64 h, .int .i64 i, .int .i64 k0] 227)) := hb1.alloc hz1' _
 have hq : w1.heap.size < (w1.alloc (.cells #[.int .i64 y, .int .i64 m, .int .i64 d, .int .i64 h, .int .i64 i, .int .i64 k0] 227)).heap.size := by simp
 generalize w1.alloc (.cells #[.int .i64 y, .int .i64 m, .int .i64 d, .int .i64 h, .int .i64 i, .int .i64 k0] 227) = W at *
 have HS : Hid (DuesAt s a w W w1.heap.size 0 (.slice none 0 0)) := ⟨World.ownsRow_nil _ _ _ _, hbW, hq, y, m, d, h, i, k0, hI, HD'.out⟩
 clear hI hbW hq hb1 HD'
 generalize w1.heap.size = q at *
 go_loopw [7, 10] (fun v t wr => ∃ k : Nat, k ≤ n ∧ t = .int .i64 (a + k) ∧ DuesAt s a w wr q k v) (fun _ t _ => n - (intOf t - a).toNat)
 case atStart => exact ⟨0, Nat.zero_le _, by simp, HS.out⟩
 case round =>
  obtain ⟨k, hk, rfl, ⟨hown, hbr, hlq, y, m, d, h, i, k', hDI, hDt⟩⟩ := hrel
  have HDI : Hid (DtIn wr q y m d h i k') := hDI
  have HDt : Hid (DtIs (a + k) y m d h i k') := hDt
  obtain ⟨⟨p0, p1, p2, p3, p4, p5⟩, _⟩ := hDI
  clear hDt
  by_cases hlt : k < n
  ·have t0 : 0 ≤ a + (k : Int) := by omega
   have t1 : a + (k : Int) ≤ 4223371679 := by omega
   have t2 : a + (k : Int) ≤ b := by omega
   obtain ⟨m1, m2, d1, d2, h1, h2, i1, i2, k1, k2⟩ := HDt.out.bd t0 t1
   have HE : Hid (dueB s m d h i k' = dueT s (a + k)) := dueT_is t1 HDt.out
   go_wp2_with fail
   refine (dueAt_any s y m d h i k' _ hs HP.out m1 m2 d1 d2 h1 h2 i1 i2 k1 k2).mono ?_
   rintro e w2 ⟨rfl, hb2⟩
   rw [HE.out]
   clear p0 p1 p2 p3 p4 p5
   have HDI2 : Hid (DtIn w2 q y m d h i k') := HDI.out.later hlq hb2
   have hown2 := own_below hown hb2
   have hbr2 : Below w.heap.size w w2 := hbr.trans (hb2.mono hbr.size)
   have hlq2 : q < w2.heap.size := Nat.lt_of_lt_of_le hlq hb2.size
   have hln := Bx.dl_len (dueT s) a k
   clear HDI hown hbr hb2 HE m1 m2 d1 d2 h1 h2 i1 i2 k1 k2
   cases hdu : dueT s (a + k)
   ·have HF : Hid (Bx.dl (dueT s) a (k + 1) = Bx.dl (dueT s) a k) := dl_no hdu
    obtain ⟨⟨p0, p1, p2, p3, p4, p5⟩, f⟩ := HDI2.out
    have f0 := f 0 (by decide); have f1 := f 1 (by decide); have f2 := f 2 (by decide); have f3 := f 3 (by decide); have f4 := f 4 (by decide); have f5 := f 5 (by decide)
    clear f
    go_wp2_with fail
    refine (after_any (a + k) y m d h i k' _ t0 t1 HDt.out).mono ?_
    rintro e w3 ⟨⟨y', m', d', h', i', k'', rfl, HN⟩, hb3⟩
    clear p0 p1 p2 p3 p4 p5 f0 f1 f2 f3 f4 f5
    have HDI3 := HDI2.out.later hlq2 hb3
    have HN' : Hid (DtIs (a + ((k + 1 : Nat) : Int)) y' m' d' h' i' k'') := by
     unfold Hid; rw [show a + ((k + 1 : Nat) : Int) = a + k + 1 by push_cast; omega]; exact HN
    have HS3 : Hid (DtIn _ q y' m' d' h' i' k'') := HDI3.store y' m' d' h' i' k''
    obtain ⟨⟨p0, p1, p2, p3, p4, p5⟩, f⟩ := HDI3
    have f0 := f 0 (by decide); have f1 := f 1 (by decide); have f2 := f 2 (by decide); have f3 := f 3 (by decide); have f4 := f 4 (by decide); have f5 := f 5 (by decide)
    clear f HN
    go_wp2_with fail
    go_roundw
    case rel =>
     refine ⟨k + 1, by omega, by go_num, ⟨?_, ?_, ?_, y', m', d', h', i', k'', HS3.out, HN'.out⟩⟩
     ·rw [HF.out]
      have := own_below hown2 hb3
      repeat (refine ownsRow_setCell_below ?_ (by simp) _)
      exact this
     ·repeat (refine Below.setCell ?_ (by simp; omega) _)
      exact hbr2.trans (hb3.mono hbr2.size)
     ·have := hb3.size; simp; omega
    case measure => simp [intOf]; omega
   ·have HF : Hid (Bx.dl (dueT s) a (k + 1) = Bx.dl (dueT s) a k ++ [a + (k : Int)]) := dl_yes hdu
    obtain ⟨⟨p0, p1, p2, p3, p4, p5⟩, f⟩ := HDI2.out
    generalize Bx.dl (dueT s) a k = L at *
    clear f p0 p1 p2 p3 p4 p5
    go_wp2_with (at_builtin; refine wpList_append_lies _ rfl (.tmp 27) (.tmp 29) 24 rfl (q + 1) 3 i0 (.int .i64 0) 1 8 Tryz.underlying24 hi hz0 hz1 hz2 rfl (by decide) _ _ _ rfl (hown2.alloc _) ⟨w2.heap.size, 0, none⟩ 1 1 [.int .i64 (a + k)] rfl rfl ?c1 ?c2 (by decide) ?c3 ?c4 ?c5 _ rfl ?_)
    case c1 => exact cell_one_new _ _ _
    case c2 => intro u hu; simp at hu; subst hu; rfl
    case c3 => unfold maxLen; omega
    case c4 => omega
    case c5 => simp; omega
    ·intro g cap1 w4 hown' hgrow _ hlt'
     have B1 : Below (q + 1) w2 w4 := ((Below.refl (q + 1) w2).alloc (by omega) _).grown hgrow (by simp; omega) (fun k' e => (hown2.lt k' e).1)
     have B2 : Hid (Below w.heap.size w w4) := hbr2.trans (B1.mono (by omega))
     have hown3 : Hid (w4.ownsRow (q + 1) 3 1 (.slice (some ⟨g, 0, none⟩) (L.length + 1) cap1) (L ++ [a + (k : Int)]).length ((L ++ [a + (k : Int)]).map (Value.int .i64))) := by unfold Hid; simpa using hown'
     have hlq4 : q < w4.heap.size := Nat.lt_of_lt_of_le hlq2 B1.size
     have HDI4 : Hid (DtIn w4 q y m d h i k') := HDI2.out.below (by omega) B1
     clear hown' hgrow hown2 hbr2 HDI2
     obtain ⟨⟨p0, p1, p2, p3, p4, p5⟩, f⟩ := HDI4.out
     have f0 := f 0 (by decide); have f1 := f 1 (by decide); have f2 := f 2 (by decide); have f3 := f 3 (by decide); have f4 := f 4 (by decide); have f5 := f 5 (by decide)
     clear f
     go_wp2_with fail
     refine (after_any (a + k) y m d h i k' _ t0 t1 HDt.out).mono ?_
     rintro e w3 ⟨⟨y', m', d', h', i', k'', rfl, HN⟩, hb3⟩
     clear p0 p1 p2 p3 p4 p5 f0 f1 f2 f3 f4 f5
     have HDI3 := HDI4.out.later hlq4 hb3
     have HN' : Hid (DtIs (a + ((k + 1 : Nat) : Int)) y' m' d' h' i' k'') := by
      unfold Hid; rw [show a + ((k + 1 : Nat) : Int) = a + k + 1 by push_cast; omega]; exact HN
     have HS3 : Hid (DtIn _ q y' m' d' h' i' k'') := HDI3.store y' m' d' h' i' k''
     obtain ⟨⟨p0, p1, p2, p3, p4, p5⟩, f⟩ := HDI3
     have f0 := f 0 (by decide); have f1 := f 1 (by decide); have f2 := f 2 (by decide); have f3 := f 3 (by decide); have f4 := f 4 (by decide); have f5 := f 5 (by decide)
     clear f HN
     go_wp2_with fail
     go_roundw
     case rel =>
      refine ⟨k + 1, by omega, by go_num, ⟨?_, ?_, ?_, y', m', d', h', i', k'', HS3.out, HN'.out⟩⟩
      ·rw [HF.out]
       have := own_below hown3.out hb3
       repeat (refine ownsRow_setCell_below ?_ (by simp) _)
       exact this
      ·repeat (refine Below.setCell ?_ (by simp; omega) _)
       exact B2.out.trans (hb3.mono B2.out.size)
      ·have := hb3.size; simp; omega
     case measure => simp [intOf]; omega
  ·obtain rfl : k = n := by omega
   have t2 : ¬ a + (k : Int) ≤ b := by omega
   have hq1 := hbr.size
   clear hn' HDI HDt p0 p1 p2 p3 p4 p5 hlt hk
   go_wp2_with fail
   go_ret
   exact ⟨⟨_, rfl, own_low hown (by omega)⟩, hbr⟩
end Go.Proofs.YtdajolpoiffimaaGreatDoor
