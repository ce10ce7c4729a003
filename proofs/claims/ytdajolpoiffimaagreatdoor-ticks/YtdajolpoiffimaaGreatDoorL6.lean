/-
  RefHear, RefHear2, RefFeed, CalWalks, CalLoops, CalDate, PrgFrame, PrgList, PrgList2, TabFld, TabText, TabNum, TabOpt, TabOpt2, TabPart, TabPart2, TabFld2, TabSplit, TabChk.
-/
import Derived.Deep.QuietTactic
import Derived.BigQuiet
import Derived.Deep.Cut
import Derived.Test.YtdajolpoiffimaaGreatDoorL1
import Derived.Test.YtdajolpoiffimaaGreatDoorL5

namespace Go.Proofs.YtdajolpoiffimaaGreatDoor
open Go.RowKit

set_option maxHeartbeats 1000000 in
theorem behind_any (t u : ByteArray) (w : World) (ht : t.size ≤ 1000000000000000000) (hu : u.size ≤ 1000) (hu1 : 0 < u.size) :
    Calls Tryz.prog 175 #[.string t, .string u] w fun e w' => e = .returned (.tuple #[.string (behS t u), .bool (behB t u)]) ∧ w' = w := by
  go_enter Tryz.func175, Tryz.ntmps175
  go_wp2_with fail
  go_loop [0] (fun v => ∃ y : ByteArray, v = .string y ∧ y.size ≤ 1000000000000000000 ∧ behL u.data.toList y.data.toList = behL u.data.toList t.data.toList) (fun v => strSize v)
  case atStart => exact ⟨t, rfl, ht, rfl⟩
  case round =>
    obtain ⟨y, rfl, hy, hbe⟩ := hrel
    have Hbe : Hid (behL u.data.toList y.data.toList = behL u.data.toList t.data.toList) := hbe
    clear hbe
    by_cases hlt : u.size ≤ y.size
    · have z1 : (u.size : Int) ≤ (y.size : Int) := by omega
      have hul : u.data.toList.length = u.size := by simp
      have hyl : y.data.toList.length = y.size := by simp
      cases he : ((y.extract 0 u.size).toList == u.toList)
      · have hp : u.data.toList.isPrefixOf y.data.toList = false := by
          cases hh : u.data.toList.isPrefixOf y.data.toList
          · rfl
          · have h1 := List.prefix_iff_eq_take.1 (List.isPrefixOf_iff_prefix.1 hh)
            have h2 : (y.extract 0 u.size).toList = u.toList := by
              rw [ByteArray.toList_eq, ByteArray.toList_eq, ext_list, List.drop_zero, Nat.sub_zero, ← hul, ← h1]
            rw [h2] at he; simp at he
        have HN : Hid (behL u.data.toList (y.extract 1 y.size).data.toList = behL u.data.toList t.data.toList) := by
          unfold Hid
          rw [← Hbe.out, ext_list]
          cases hy2 : y.data.toList with
          | nil => rw [hy2] at hyl; simp at hyl; omega
          | cons a r =>
            rw [hy2] at hp hyl
            rw [behL_no hp]
            congr 1
            simp at hyl
            rw [List.drop_one, List.tail_cons, List.take_of_length_le (by omega)]
        clear hp hul hyl
        go_wp2_with fail
        go_round
        case rel => exact ⟨_, rfl, by simp; omega, HN.out⟩
        case measure => simp [strSize]; omega
      · have hp : u.data.toList.isPrefixOf y.data.toList = true := by
          have h2 : (y.extract 0 u.size).toList = u.toList := by simpa using he
          rw [ByteArray.toList_eq, ByteArray.toList_eq, ext_list, List.drop_zero, Nat.sub_zero] at h2
          rw [List.isPrefixOf_iff_prefix, List.prefix_iff_eq_take, hul]; exact h2.symm
        have HN : Hid (behL u.data.toList t.data.toList = some (y.data.toList.drop u.size)) := by
          unfold Hid; rw [← Hbe.out, behL_yes hp, hul]
        have HS : Hid (behS t u = y.extract u.size y.size ∧ behB t u = true) := by
          unfold Hid behS behB; rw [HN.out]
          refine ⟨?_, rfl⟩
          apply ByteArray.ext
          apply Array.toList_inj.1
          rw [ext_list]
          show (y.data.toList.drop u.size) = _
          rw [List.take_of_length_le (by rw [List.length_drop, hyl]; omega)]
        clear hp hul hyl HN
        go_wp2_with fail
        go_ret2
        rw [HS.out.1, HS.out.2]
        exact ⟨rfl, rfl⟩
    · have z1 : ¬ (u.size : Int) ≤ (y.size : Int) := by omega
      have HS : Hid (behS t u = ByteArray.empty ∧ behB t u = false) := by
        unfold Hid behS behB
        rw [← Hbe.out, behL_short (by simp; omega)]
        exact ⟨rfl, rfl⟩
      go_wp2_with fail
      go_ret2
      rw [HS.out.1, HS.out.2]
      exact ⟨rfl, rfl⟩
end Go.Proofs.YtdajolpoiffimaaGreatDoor

namespace Go.Proofs.YtdajolpoiffimaaGreatDoor
open Go.RowKit

abbrev tkV (t : Bx.Tk) : Value := .agg #[.int .i64 t.num, .int .i64 t.at', .int .i64 t.since, .string t.heard]
theorem ret_tk {t u : Bx.Tk} {a b : ByteArray} (h : (t, a) = (u, b)) : Ending.returned (.tuple #[tkV t, .string a]) = .returned (.tuple #[tkV u, .string b]) := by cases h; rfl
structure RkIn (W : World) (q : Nat) (t : Bx.Tk) : Prop where
  c0 : W.cell? ⟨q, 0, none⟩ = some (.int .i64 t.num)
  c1 : W.cell? ⟨q, 1, none⟩ = some (.int .i64 t.at')
  c2 : W.cell? ⟨q, 2, none⟩ = some (.int .i64 t.since)
  c3 : W.cell? ⟨q, 3, none⟩ = some (.string t.heard)
set_option maxRecDepth 10000 in
set_option maxHeartbeats 2000000 in
theorem hears_any (L : List ByteArray) (v : Value) (c : Int) (hLn : L.length ≤ 100) (hL : ∀ s ∈ L, 2 ≤ s.size ∧ s.size ≤ 9) (n : Nat) : n ≤ 1000 → ∀ (t : Bx.Tk) (a : Nat) (w : World), t.at' = (a : Int) → a ≤ L.length → L.length - a ≤ n → t.heard.size ≤ 1000000000000000000 → RowAt w v L.length (L.map Value.string) →
    Calls Tryz.prog 141 #[tkV t, v, .int .i64 c] w fun e w' => e = .returned (.tuple #[tkV (hearF L c n t).1, .string (hearF L c n t).2]) ∧ Below w.heap.size w w' := by
  induction n with
  | zero =>
    intro hn0 t a w hta ha hn hh hR
    obtain ⟨ad, cap, rfl, hcap⟩ := hR.form
    obtain ⟨tn, tat, ts, th⟩ := t
    dsimp only at *
    have q1 : (L.length : Int) ≤ tat := by omega
    clear hR hL hta
    go_enter Tryz.func141, Tryz.ntmps141
    go_wp2_with fail
    exact bodyPost_ret (v := .tuple #[tkV ⟨tn, tat, ts, th⟩, .string ByteArray.empty]) (by simp [results, Tryz.results141, go_sem]; rfl) rfl ⟨rfl, (below_alloc _ _).alloc (by simp) _⟩
  | succ n ih =>
    intro hn0 t a w hta ha hn hh hR
    obtain ⟨tn, tat, ts, th⟩ := t
    dsimp only at *
    subst hta
    have HF : Hid (hearF L c (n + 1) ⟨tn, (a : Int), ts, th⟩ = if (L.length : Int) ≤ (a : Int) then (⟨tn, (a : Int), ts, th⟩, ByteArray.empty) else if behB th (wordAt L a) = false then (⟨tn, (a : Int), ts, th⟩, ByteArray.empty)
      else ((hearF L c n ⟨tn, ((a + 1 + (saysL (L.drop (a + 1))).2 : Nat) : Int), c, behS th (wordAt L a)⟩).1, (saysL (L.drop (a + 1))).1 ++ (hearF L c n ⟨tn, ((a + 1 + (saysL (L.drop (a + 1))).2 : Nat) : Int), c, behS th (wordAt L a)⟩).2)) := rfl
    by_cases hlt : a < L.length
    · rw [if_neg (by omega)] at HF
      have hk2 := hL L[a] (List.getElem_mem _)
      have HB : Hid (∀ W : World, Calls Tryz.prog 175 #[.string th, .string (L[a].extract 1 L[a].size)] W fun e w' => e = .returned (.tuple #[.string (behS th (wordAt L a)), .bool (behB th (wordAt L a))]) ∧ w' = W) := by
        intro W; rw [word_eq hlt]
        exact behind_any th (wordAt L a) W hh (by rw [← word_eq hlt]; simp; omega) (by rw [← word_eq hlt]; simp; omega)
      obtain ⟨b, off, cap, hv, hcap, hc⟩ := hR.some' (by omega)
      subst hv
      have x0 : w.cell? ⟨b, off + a, none⟩ = some (.string L[a]) := by have := hc a (by simpa using hlt); rw [this]; simp
      have hlb : b < w.heap.size := World.block_lt_of_cell? _ _ x0
      have HR : Hid (RowAt w (.slice (some ⟨b, off, none⟩) L.length cap) L.length (L.map Value.string)) := hR
      have hbs := behS_size th (wordAt L a)
      have y1 : (0 : Int) ≤ (a : Int) := by omega
      have y2 : (a : Int) < (L.length : Int) := by omega
      have y3 : ¬ (L.length : Int) ≤ (a : Int) := by omega
      have hp : 1 ≤ L[a].size := by omega
      clear hc hR
      go_enter Tryz.func141, Tryz.ntmps141
      go_wp2_with fail
      go_quiet ((go_at_call 175; exact Calls.quiet_of_same (HB.out _)))
      have hb2 : Below w.heap.size w (((w.alloc (.cells #[.int .i64 tn, .int .i64 (a : Int), .int .i64 ts, .string th] 172)).alloc (.cells #[.int .i64 0, .int .i64 0, .int .i64 0, .string { data := #[] }] 172)).drewN nq) := below_drewN ((below_alloc _ _).alloc (by simp) _) _
      have HZ : Hid (ZIn (((w.alloc (.cells #[.int .i64 tn, .int .i64 (a : Int), .int .i64 ts, .string th] 172)).alloc (.cells #[.int .i64 0, .int .i64 0, .int .i64 0, .string { data := #[] }] 172)).drewN nq) (w.heap.size + 1) 4) := by
        have h := ZIn.new (w.alloc (.cells #[.int .i64 tn, .int .i64 (a : Int), .int .i64 ts, .string th] 172)) #[.int .i64 0, .int .i64 0, .int .i64 0, .string { data := #[] }] 172
        have h2 := h.later (by simp) (below_drewN (Below.refl _ _) nq)
        unfold Hid; simpa using h2
      have HT : Hid (RkIn (((w.alloc (.cells #[.int .i64 tn, .int .i64 (a : Int), .int .i64 ts, .string th] 172)).alloc (.cells #[.int .i64 0, .int .i64 0, .int .i64 0, .string { data := #[] }] 172)).drewN nq) w.heap.size ⟨tn, (a : Int), ts, th⟩) := ⟨by simp [go_sem], by simp [go_sem], by simp [go_sem], by simp [go_sem]⟩
      have hzW : w.heap.size + 1 < (((w.alloc (.cells #[.int .i64 tn, .int .i64 (a : Int), .int .i64 ts, .string th] 172)).alloc (.cells #[.int .i64 0, .int .i64 0, .int .i64 0, .string { data := #[] }] 172)).drewN nq).heap.size := by simp
      generalize ((w.alloc (.cells #[.int .i64 tn, .int .i64 (a : Int), .int .i64 ts, .string th] 172)).alloc (.cells #[.int .i64 0, .int .i64 0, .int .i64 0, .string { data := #[] }] 172)).drewN nq = W at *
      have HB2 : Hid (Below w.heap.size w W) := hb2
      have HR2 : Hid (RowAt W (.slice (some ⟨b, off, none⟩) L.length cap) L.length (L.map Value.string)) := HR.out.later hb2
      obtain ⟨t0, t1, t2, t3⟩ := HT.out
      obtain ⟨⟨u0, r0⟩, f0⟩ := HZ.out 0 (by decide)
      obtain ⟨⟨u1, r1⟩, f1⟩ := HZ.out 1 (by decide)
      obtain ⟨⟨u2, r2⟩, f2⟩ := HZ.out 2 (by decide)
      obtain ⟨⟨u3, r3⟩, f3⟩ := HZ.out 3 (by decide)
      clear x0 HB hb2
      generalize behS th (wordAt L a) = rest at *
      cases hbh : behB th (wordAt L a)
      · rw [if_pos hbh] at HF
        go_wp2_with fail
        refine bodyPost_ret (v := .tuple #[tkV ⟨tn, (a : Int), ts, th⟩, .string ByteArray.empty]) (by simp [results, Tryz.results141, go_sem, r0, r1, r2, r3]; rfl) rfl ?_
        rw [HF.out]
        refine ⟨rfl, ?_⟩
        repeat (refine Below.setCell ?_ (by simp) _)
        exact HB2.out
      · rw [if_neg (by rw [hbh]; simp)] at HF
        have HSy : Hid (∀ (x : Int), x = ((a + 1 : Nat) : Int) → Calls Tryz.prog 140 #[.slice (some ⟨b, off, none⟩) L.length cap, .int .i64 x] W fun e w' => e = .returned (.tuple #[.string (saysL (L.drop (a + 1))).1, .int .i64 ((a + 1 + (saysL (L.drop (a + 1))).2 : Nat) : Int)]) ∧ w' = W) := by
          intro x hx; subst hx; exact says_any L _ (L.length - (a + 1)) (a + 1) W (by omega) hLn hL HR2.out
        have hsz := saysL_size (L.drop (a + 1)) (fun s h => (hL s (List.mem_of_mem_drop h)).2)
        have hfz := hearF_size L c (fun s h => (hL s h).2) hLn n ⟨tn, ((a + 1 + (saysL (L.drop (a + 1))).2 : Nat) : Int), c, rest⟩
        simp at hsz
        have HIH : Hid (∀ (x : Int) (W' : World), x = ((a + 1 + (saysL (L.drop (a + 1))).2 : Nat) : Int) → RowAt W' (.slice (some ⟨b, off, none⟩) L.length cap) L.length (L.map Value.string) → Calls Tryz.prog 141 #[.agg #[.int .i64 tn, .int .i64 x, .int .i64 c, .string rest], .slice (some ⟨b, off, none⟩) L.length cap, .int .i64 c] W' fun e w' => e = .returned (.tuple #[tkV (hearF L c n ⟨tn, ((a + 1 + (saysL (L.drop (a + 1))).2 : Nat) : Int), c, rest⟩).1, .string (hearF L c n ⟨tn, ((a + 1 + (saysL (L.drop (a + 1))).2 : Nat) : Int), c, rest⟩).2]) ∧ Below W'.heap.size W' w') := by
          intro x W' hx hR'; subst hx
          exact ih (by omega) ⟨tn, ((a + 1 + (saysL (L.drop (a + 1))).2 : Nat) : Int), c, rest⟩ (a + 1 + (saysL (L.drop (a + 1))).2) W' rfl (by omega) (by omega) (by show rest.size ≤ 1000000000000000000; omega) hR'
        clear ih hL
        generalize hearF L c n ⟨tn, ((a + 1 + (saysL (L.drop (a + 1))).2 : Nat) : Int), c, rest⟩ = V at *
        generalize saysL (L.drop (a + 1)) = S at *
        go_wp2_with fail
        refine (HSy.out _ (by push_cast; rfl)).mono ?_
        rintro e w3 ⟨rfl, hw3⟩
        subst hw3
        have hb4 := below_alloc w3 (.cells #[.int .i64 tn, .int .i64 ((a + 1 + S.2 : Nat) : Int), .int .i64 c, .string rest] 172)
        have HR4 : Hid (RowAt _ (.slice (some ⟨b, off, none⟩) L.length cap) L.length (L.map Value.string)) := HR2.out.later hb4
        have HZ4 : Hid (ZIn _ (w.heap.size + 1) 4) := HZ.out.later hzW hb4
        have HB4 : Hid (Below w.heap.size w _) := HB2.out.trans (hb4.mono HB2.out.size)
        clear t0 t1 t2 t3 r0 r1 r2 r3 f0 f1 f2 f3 hb4
        obtain ⟨t0, t1, t2, t3⟩ := HT.out
        go_wp2_with fail
        refine (HIH.out _ _ (by first | rfl | (push_cast; rfl)) HR4.out).mono ?_
        rintro e w5 ⟨rfl, hb5⟩
        have HZ5 := HZ4.out.later (by simp; omega) hb5
        have HB5 : Hid (Below w.heap.size w w5) := HB4.out.trans (hb5.mono HB4.out.size)
        have hz5 : w.heap.size + 1 < w5.heap.size := by have := hb5.size; simp at this; omega
        obtain ⟨⟨u0, r0⟩, f0⟩ := HZ5 0 (by decide)
        obtain ⟨⟨u1, r1⟩, f1⟩ := HZ5 1 (by decide)
        obtain ⟨⟨u2, r2⟩, f2⟩ := HZ5 2 (by decide)
        obtain ⟨⟨u3, r3⟩, f3⟩ := HZ5 3 (by decide)
        have q9 : ¬ 9223372036854775807 < S.1.size + V.2.size := by omega
        clear t0 t1 t2 t3 hb5 HZ5 HZ4 HR4 HB4
        go_wp2_with fail
        refine bodyPost_ret (v := .tuple #[tkV V.1, .string (S.1 ++ V.2)]) (by simp [results, Tryz.results141, go_sem, r0, r1, r2, r3, hz5]) rfl ?_
        rw [HF.out]
        refine ⟨rfl, Below.alloc ?_ (by simp; omega) _⟩
        repeat (refine Below.setCell ?_ (by simp) _)
        exact HB5.out
    · have hae : a = L.length := by omega
      rw [if_pos (by omega)] at HF
      obtain ⟨ad, cap, rfl, hcap⟩ := hR.form
      have q1 : (L.length : Int) ≤ (a : Int) := by omega
      clear hR hL ih hae hlt
      go_enter Tryz.func141, Tryz.ntmps141
      go_wp2_with fail
      refine bodyPost_ret (v := .tuple #[tkV ⟨tn, (a : Int), ts, th⟩, .string ByteArray.empty]) (by simp [results, Tryz.results141, go_sem]; rfl) rfl ?_
      rw [HF.out]
      exact ⟨rfl, (below_alloc _ _).alloc (by simp) _⟩
end Go.Proofs.YtdajolpoiffimaaGreatDoor

namespace Go.Proofs.YtdajolpoiffimaaGreatDoor
open Go.RowKit

theorem own_setc {w : World} {base g cap n i size : Nat} {e : TypeId} {xs : List Value} (h : w.ownsRow base e size (.slice (some ⟨g, 0, none⟩) n cap) n xs) (u : Value) : (w.setCell ⟨g, i, none⟩ u).ownsRow base e size (.slice (some ⟨g, 0, none⟩) n cap) n (xs.set i u) := by
  have hx := h.1
  rcases h.2 with ⟨h2, _⟩ | ⟨g', cap', cur, hv, hb, hg, hc, hm, hs, ht⟩
  · cases h2
  · cases hv
    refine ⟨by simpa using hx, Or.inr ⟨g, cap, cur.setIfInBounds i u, rfl, hb, heap_setCell_same _ _ _ _ _ _ hg, hc, hm, by simpa using hs, ?_⟩⟩
    rw [← ht, Array.toList_setIfInBounds, List.take_set]
theorem flat_set (l : List Bx.Tk) (k : Nat) (t : Bx.Tk) (h : k < l.length) : (l.set k t).flatMap tkC = ((((l.flatMap tkC).set (k * 4) (.int .i64 t.num)).set (k * 4 + 1) (.int .i64 t.at')).set (k * 4 + 2) (.int .i64 t.since)).set (k * 4 + 3) (.string t.heard) := by
  induction l generalizing k with
  | nil => simp at h
  | cons x r ih =>
    cases k with
    | zero => simp [tkC]
    | succ k =>
      have := ih k (by simpa using h)
      rw [List.set_cons_succ, List.flatMap_cons, this, List.flatMap_cons]
      rw [show (k + 1) * 4 = k * 4 + 1 + 1 + 1 + 1 by omega, show k * 4 + 1 + 1 + 1 + 1 + 1 = (k * 4 + 1) + 1 + 1 + 1 + 1 by omega, show k * 4 + 1 + 1 + 1 + 1 + 2 = (k * 4 + 2) + 1 + 1 + 1 + 1 by omega, show k * 4 + 1 + 1 + 1 + 1 + 3 = (k * 4 + 3) + 1 + 1 + 1 + 1 by omega]
      simp [tkC, List.set_cons_succ]
/-- One talk is another. -/
theorem BoxIn.tset {W : World} {B g cap k : Nat} {b : Bx.Bo} {sl en : Value} (h : BoxIn W B b sl en (.slice (some ⟨g, 0, none⟩) b.talks.length cap)) (hk : k < b.talks.length) (t : Bx.Tk) :
    BoxIn ((((W.setCell ⟨g, k * 4, none⟩ (.int .i64 t.num)).setCell ⟨g, k * 4 + 1, none⟩ (.int .i64 t.at')).setCell ⟨g, k * 4 + 2, none⟩ (.int .i64 t.since)).setCell ⟨g, k * 4 + 3, none⟩ (.string t.heard)) B { b with talks := b.talks.set k t } sl en (.slice (some ⟨g, 0, none⟩) b.talks.length cap) := by
  have hne : B ≠ g := by
    have := (h.tk.lt g rfl).1
    omega
  have tyg : Typed W g 172 := by
    rcases h.tk.2 with ⟨h2, _⟩ | ⟨g', cap', cur, hv, _, hh, _⟩
    · cases h2
    · cases hv; exact ⟨_, _, hh⟩
  have t1 := tyg.setCell g (k * 4) (.int .i64 t.num)
  have t2 := t1.setCell g (k * 4 + 1) (.int .i64 t.at')
  have t3 := t2.setCell g (k * 4 + 2) (.int .i64 t.since)
  obtain ⟨c0, c1, c2, c3, c4, c5, c6, c7, c8, f, ty, rows, tko⟩ := h
  refine ⟨?_, ?_, ?_, ?_, ?_, ?_, ?_, ?_, ?_, fun j hj => ?_, (((ty.setCell _ _ _).setCell _ _ _).setCell _ _ _).setCell _ _ _, (((rows.set tyg (by decide) (by decide) _ _).set t1 (by decide) (by decide) _ _).set t2 (by decide) (by decide) _ _).set t3 (by decide) (by decide) _ _, ?_⟩
  case refine_10 => simp [go_sem, f j hj]
  case refine_11 =>
    show World.ownsRow _ (B + 1) 172 4 _ (b.talks.set k t).length ((b.talks.set k t).flatMap tkC)
    rw [List.length_set, flat_set b.talks k t hk]
    exact own_setc (own_setc (own_setc (own_setc tko _) _) _) _
  all_goals simp [go_sem, c0, c1, c2, c3, c4, c5, c6, c7, c8]
theorem row_frozen {W : World} {base g n cap size : Nat} {e : TypeId} {xs : List Value} (h : W.ownsRow base e size (.slice (some ⟨g, 0, none⟩) n cap) n xs) (j : Nat) : W.frozen? ⟨g, j, none⟩ = false := by
  rcases h.2 with ⟨h2, _⟩ | ⟨g', cap', cur, hv, _, hg, _⟩
  · cases h2
  · cases hv; unfold World.frozen?; rw [hg]; simp
set_option maxRecDepth 10000 in
set_option maxHeartbeats 3000000 in
theorem rfeed_any (b : Bx.Bo) (B : Nat) (n : Int) (x : ByteArray) (sl en tk : Value) (w : World) (hO : BoOk b) (hx : x.size ≤ maxLen) (hH : ∀ t ∈ b.talks, t.heard.size ≤ 100000000000000000) (hA : ¬ talkOf b.talks n < 0 → (tkAt b (talkOf b.talks n).toNat).at' ≤ (startL b n).length) (hB : BoxIn w B b sl en tk) :
    Calls Tryz.prog 93 #[.pointer (some ⟨B, 0, none⟩), .int .i64 n, .string x] w fun e w' => (∃ sl' en' tk', e = .returned (.tuple #[.string (feedP b n x).2.1, .int .i64 (feedP b n x).2.2]) ∧ BoxIn w' B (feedP b n x).1 sl' en' tk' ∧ NewTk w tk tk') ∧ TwoBy w w' B tk.ownBlock := by
  unfold maxLen at hx
  obtain ⟨ad, cap, rfl, hcap⟩ := hB.rows.sl.form
  obtain ⟨ad2, cap2, rfl, hcap2⟩ := hB.rows.en.form
  obtain ⟨ad3, cap3, rfl, hcap3⟩ := hB.tkr.form
  have HB : Hid (BoxIn w B b (.slice ad b.now.slots.length cap) (.slice ad2 b.now.ends.length cap2) (.slice ad3 b.talks.length cap3)) := hB
  have HO : Hid (BoOk b) := hO
  have HH : Hid (∀ t ∈ b.talks, t.heard.size ≤ 100000000000000000) := hH
  have hs8 := hO.st.sl
  have ht100 := hO.tks
  have HP : Hid (feedP b n x = if 40 < x.size then (b, ByteArray.empty, 1)
    else if Bx.find b.now n < 0 then (b, ByteArray.empty, 8)
    else if talkOf b.talks n < 0 then (b, ByteArray.empty, 9)
    else if ((startL b n).length : Int) ≤ (feedH b n x).1.at' then
      (if b.room < (b.text.size : Int) + (Bx.frames [chD n]).size then (b, ByteArray.empty, 13) else ({ addB b [chD n] with talks := hushL (Bx.told b.now [chD n]) b.talks }, (feedH b n x).2, 0))
    else ({ b with talks := b.talks.set (talkOf b.talks n).toNat (feedH b n x).1 }, (feedH b n x).2, 0)) := rfl
  have HA : Hid (¬ talkOf b.talks n < 0 → (tkAt b (talkOf b.talks n).toNat).at' ≤ (startL b n).length) := hA
  clear hB hO hH hA
  by_cases h40 : 40 < x.size
  · have HP' : Hid (feedP b n x = (b, ByteArray.empty, 1)) := by unfold Hid; rw [HP.out, if_pos h40]
    have z0 : (40 : Int) < (x.size : Int) := by omega
    go_enter Tryz.func93, Tryz.ntmps93
    go_wp2_with fail
    go_ret2
    rw [HP'.out]
    exact ⟨⟨rfl, _, _, _, HB.out, Or.inl rfl⟩, TwoBy.of_grow (grow_refl _ _) _⟩
  rw [if_neg h40] at HP
  have z0 : ¬ (40 : Int) < (x.size : Int) := by omega
  go_enter Tryz.func93, Tryz.ntmps93
  go_wp2_with fail
  refine (bstate_any b B _ _ _ _ HB.out).mono ?_
  rintro e w2 ⟨rfl, hb2⟩
  have hb3 := below_alloc w2 (stO b.now (.slice ad b.now.slots.length cap) (.slice ad2 b.now.ends.length cap2))
  have HB3 : Hid (BoxIn (w2.alloc (stO b.now (.slice ad b.now.slots.length cap) (.slice ad2 b.now.ends.length cap2))) B b (.slice ad b.now.slots.length cap) (.slice ad2 b.now.ends.length cap2) (.slice ad3 b.talks.length cap3)) := (HB.out.later hb2).later hb3
  have HG3 : Hid (Below w.heap.size w (w2.alloc (stO b.now (.slice ad b.now.slots.length cap) (.slice ad2 b.now.ends.length cap2)))) := hb2.trans (hb3.mono hb2.size)
  have HI : Hid (StIn (w2.alloc (stO b.now (.slice ad b.now.slots.length cap) (.slice ad2 b.now.ends.length cap2))) w2.heap.size b.now (.slice ad b.now.slots.length cap) (.slice ad2 b.now.ends.length cap2)) := StIn.new w2 b.now _ _
  go_upto_region 4 with fail
  generalize w2.alloc (stO b.now (.slice ad b.now.slots.length cap) (.slice ad2 b.now.ends.length cap2)) = W at *
  generalize w2.heap.size = sq at *
  clear hb2 hb3 HB
  obtain ⟨d0, d1, d2, d3, d4⟩ := HI.out
  go_wp2_with fail
  refine (find_any b.now n _ _ _ (by omega) HB3.out.rows).mono ?_
  rintro e w4 ⟨rfl, hb4⟩
  have HB4 : Hid (BoxIn w4 B b (.slice ad b.now.slots.length cap) (.slice ad2 b.now.ends.length cap2) (.slice ad3 b.talks.length cap3)) := HB3.out.later hb4
  have HI4 : Hid (StIn w4 sq b.now (.slice ad b.now.slots.length cap) (.slice ad2 b.now.ends.length cap2)) := HI.out.later hb4
  have HG4 : Hid (Below w.heap.size w w4) := HG3.out.trans (hb4.mono HG3.out.size)
  clear d0 d1 d2 d3 d4 HB3 HI HG3 hb4
  by_cases hneg : Bx.find b.now n < 0
  · have HP' : Hid (feedP b n x = (b, ByteArray.empty, 8)) := by unfold Hid; rw [HP.out, if_pos hneg]
    go_wp2_with fail
    go_ret2
    rw [HP'.out]
    exact ⟨⟨_, _, _, rfl, HB4.out, Or.inl rfl⟩, TwoBy.of_grow (grow_of_below HG4.out _) _⟩
  rw [if_neg hneg] at HP
  have hi := Bx.find_lt b.now n hneg
  have hnum := find_num hneg
  have hSx := HO.out.st.each _ (Bx.slAt_mem hi)
  have hn2 := HO.out.st.n2
  obtain ⟨j, hjj⟩ : ∃ j : Nat, (Bx.slAt b.now (Bx.find b.now n).toNat).line = (j : Int) + 1 := ⟨((Bx.slAt b.now (Bx.find b.now n).toNat).line - 1).toNat, by omega⟩
  have Hln : Hid ((Bx.slAt b.now (Bx.find b.now n).toNat).line = (j : Int) + 1) := hjj
  have hj : j < tn b.now.tab := by omega
  have HL : Hid (startL b n = stepsS b.now j) := by unfold Hid startL; rw [hjj, show ((j : Int) + 1 - 1).toNat = j by omega]
  have hnb : 1 ≤ n ∧ n < 10000 := by rw [hnum] at hSx; omega
  clear hSx hjj hnum
  obtain ⟨i, hiF⟩ : ∃ i : Nat, Bx.find b.now n = i := Int.eq_ofNat_of_zero_le (by omega)
  rw [hiF] at hi Hln ⊢
  simp only [Int.toNat_natCast] at hi Hln
  clear hneg hiF
  have y0 : ¬ (i : Int) < 0 := by omega
  go_wp2_with fail
  refine (talk_any b B n _ _ _ _ (by omega) HB4.out).mono ?_
  rintro e w5 ⟨rfl, hw5⟩
  subst hw5
  have htb := talkOf_bd b.talks n
  by_cases htn : talkOf b.talks n < 0
  · have HP' : Hid (feedP b n x = (b, ByteArray.empty, 9)) := by unfold Hid; rw [HP.out, if_pos htn]
    go_wp2_with fail
    go_ret2
    rw [HP'.out]
    exact ⟨⟨_, _, _, rfl, HB4.out, Or.inl rfl⟩, TwoBy.of_grow (grow_of_below HG4.out _) _⟩
  rw [if_neg htn] at HP
  have hat := HA.out (by omega)
  obtain ⟨k, hkF⟩ : ∃ k : Nat, talkOf b.talks n = k := Int.eq_ofNat_of_zero_le (by omega)
  have HFd : Hid (feedH b n x = hearF (stepsS b.now j) b.now.clock (stepsS b.now j).length (more (tkAt b k) x)) := by unfold Hid feedH; rw [HL.out, hkF]; rfl
  rw [hkF] at HP hat htb ⊢
  simp only [Int.toNat_natCast] at HP hat
  rw [HL.out] at HP hat
  have hkl : k < b.talks.length := by omega
  have y1 : ¬ (k : Int) < 0 := by omega
  clear htn hkF HA HL
  obtain ⟨d0, d1, d2, d3, d4⟩ := HI4.out
  go_wp2_with fail
  refine (bsteps_any b.now i j _ _ _ _ HO.out.st.tab hi (by omega) Hln.out hj HB4.out.rows).mono ?_
  rintro e w6 ⟨⟨v6, rfl, hR6⟩, hb6⟩
  obtain ⟨ad6, cap6, rfl, _⟩ := hR6.form
  have HB6 : Hid (BoxIn w6 B b (.slice ad b.now.slots.length cap) (.slice ad2 b.now.ends.length cap2) (.slice ad3 b.talks.length cap3)) := HB4.out.later hb6
  have HI6 : Hid (StIn w6 sq b.now (.slice ad b.now.slots.length cap) (.slice ad2 b.now.ends.length cap2)) := HI4.out.later hb6
  have HG6 : Hid (Below w.heap.size w w6) := HG4.out.trans (hb6.mono HG4.out.size)
  have HR6 : Hid (RowAt w6 (.slice ad6 (stepsS b.now j).length cap6) (stepsS b.now j).length ((stepsS b.now j).map Value.string)) := hR6
  clear d0 d1 d2 d3 d4 HB4 HI4 HG4 hb6 hR6
  have hLP := HO.out.st.tab.lines.2.2 j hj
  have hst := step_sz hLP
  have hsl := stepsOf_len hLP
  change ∀ s ∈ stepsS b.now j, 2 ≤ s.size ∧ s.size ≤ 9 at hst
  change 1 ≤ (stepsS b.now j).length ∧ (stepsS b.now j).length ≤ 5 at hsl
  have hab := HO.out.ats _ (List.getElem_mem hkl)
  have hhd := HH.out _ (List.getElem_mem hkl)
  rw [tkAt_eq b k hkl] at hab hhd
  obtain ⟨bt, offt, capt, hvt, _, hct⟩ := HB6.out.tkr.1.some' (by omega)
  cases hvt
  have x0 : w6.cell? ⟨bt, offt + k * 4, none⟩ = some (.int .i64 (tkAt b k).num) := by rw [← tkAt_eq b k hkl]; exact RowAt.cell tkC_len hct k hkl 0 (by decide)
  have x1 : w6.cell? ⟨bt, offt + k * 4 + 1, none⟩ = some (.int .i64 (tkAt b k).at') := by rw [← tkAt_eq b k hkl]; exact RowAt.cell tkC_len hct k hkl 1 (by decide)
  have x2 : w6.cell? ⟨bt, offt + k * 4 + 2, none⟩ = some (.int .i64 (tkAt b k).since) := by rw [← tkAt_eq b k hkl]; exact RowAt.cell tkC_len hct k hkl 2 (by decide)
  have x3 : w6.cell? ⟨bt, offt + k * 4 + 3, none⟩ = some (.string (tkAt b k).heard) := by rw [← tkAt_eq b k hkl]; exact RowAt.cell tkC_len hct k hkl 3 (by decide)
  have c8 := HB6.out.c8
  have hlB : B < w6.heap.size := HB6.out.ty.lt
  have d1 := HI6.out.c1
  have hls : sq < w6.heap.size := World.block_lt_of_cell? _ _ d1
  have z1 : (0 : Int) ≤ (k : Int) := by omega
  have z2 : (k : Int) < (b.talks.length : Int) := by omega
  have q8 : ¬ 9223372036854775807 < (tkAt b k).heard.size + x.size := by omega
  have HHe : Hid (∀ W' : World, RowAt W' (.slice ad6 (stepsS b.now j).length cap6) (stepsS b.now j).length ((stepsS b.now j).map Value.string) → Calls Tryz.prog 141 #[.agg #[.int .i64 (tkAt b k).num, .int .i64 (tkAt b k).at', .int .i64 (tkAt b k).since, .string ((tkAt b k).heard ++ x)], .slice ad6 (stepsS b.now j).length cap6, .int .i64 b.now.clock] W' fun e w' => e = .returned (.tuple #[tkV (feedH b n x).1, .string (feedH b n x).2]) ∧ Below W'.heap.size W' w') := by
    intro W' hR'
    rw [HFd.out]
    exact hears_any (stepsS b.now j) _ b.now.clock (by omega) hst (stepsS b.now j).length (by omega) (more (tkAt b k) x) (tkAt b k).at'.toNat W' (by show (tkAt b k).at' = _; omega) (by omega) (by omega) (by show ((tkAt b k).heard ++ x).size ≤ _; rw [ByteArray.size_append]; omega) hR'
  clear hct hst HFd hLP
  generalize feedH b n x = R at *
  generalize tkAt b k = t at *
  generalize stepsS b.now j = L at *
  have hb7 := below_alloc w6 (.cells #[.int .i64 t.num, .int .i64 t.at', .int .i64 t.since, .string (t.heard ++ x)] 172)
  have HR7 : Hid (RowAt _ (.slice ad6 L.length cap6) L.length (L.map Value.string)) := HR6.out.later hb7
  have hZ7 := ZIn.new w6 #[.int .i64 t.num, .int .i64 t.at', .int .i64 t.since, .string (t.heard ++ x)] 172
  go_wp2_with fail
  refine (HHe.out _ HR7.out).mono ?_
  rintro e w8 ⟨rfl, hb8⟩
  have hbY : Below w6.heap.size w6 w8 := hb7.trans (hb8.mono (by simp))
  have hz8 : w6.heap.size < w8.heap.size := by have := hb8.size; simp at this; omega
  obtain ⟨⟨u0, r0⟩, f0⟩ := (hZ7.later (by simp) hb8) 0 (by simp)
  obtain ⟨⟨u1, r1⟩, f1⟩ := (hZ7.later (by simp) hb8) 1 (by simp)
  obtain ⟨⟨u2, r2⟩, f2⟩ := (hZ7.later (by simp) hb8) 2 (by simp)
  obtain ⟨⟨u3, r3⟩, f3⟩ := (hZ7.later (by simp) hb8) 3 (by simp)
  have hbW : Below w6.heap.size w6 ((((w8.setCell ⟨w6.heap.size, 0, none⟩ (.int .i64 R.1.num)).setCell ⟨w6.heap.size, 1, none⟩ (.int .i64 R.1.at')).setCell ⟨w6.heap.size, 2, none⟩ (.int .i64 R.1.since)).setCell ⟨w6.heap.size, 3, none⟩ (.string R.1.heard)) := (((hbY.setCell (Nat.le_refl _) _).setCell (Nat.le_refl _) _).setCell (Nat.le_refl _) _).setCell (Nat.le_refl _) _
  have hT9 : RkIn ((((w8.setCell ⟨w6.heap.size, 0, none⟩ (.int .i64 R.1.num)).setCell ⟨w6.heap.size, 1, none⟩ (.int .i64 R.1.at')).setCell ⟨w6.heap.size, 2, none⟩ (.int .i64 R.1.since)).setCell ⟨w6.heap.size, 3, none⟩ (.string R.1.heard)) w6.heap.size R.1 := by
    refine ⟨?_, ?_, ?_, ?_⟩ <;> simp [go_sem, r0, r1, r2, r3]
  go_upto_region 14 with fail
  clear x0 x1 x2 x3 c8 d1 r0 r1 r2 r3 f0 f1 f2 f3 hZ7 hb7 hb8 hbY
  generalize (((w8.setCell ⟨w6.heap.size, 0, none⟩ (.int .i64 R.1.num)).setCell ⟨w6.heap.size, 1, none⟩ (.int .i64 R.1.at')).setCell ⟨w6.heap.size, 2, none⟩ (.int .i64 R.1.since)).setCell ⟨w6.heap.size, 3, none⟩ (.string R.1.heard) = W9 at *
  have HB9 : Hid (BoxIn W9 B b (.slice ad b.now.slots.length cap) (.slice ad2 b.now.ends.length cap2) (.slice (some ⟨bt, offt, none⟩) b.talks.length cap3)) := HB6.out.later hbW
  have HG9 : Hid (Below w.heap.size w W9) := HG6.out.trans (hbW.mono HG6.out.size)
  obtain ⟨t0, t1, t2, t3⟩ := hT9
  generalize w6.heap.size = tq at *
  by_cases hend : (L.length : Int) ≤ R.1.at'
  · rw [if_pos hend] at HP
    have hCk : ∀ c ∈ [chD n], ChOk c := by intro c hc; simp at hc; subst hc; exact chN_ok (by decide) (by decide) (by omega) (by omega)
    have hbD := below_alloc W9 (chO (chD n))
    have hRD := ch_row W9 (chD n)
    have hBD := HB9.out.later hbD
    have HGD : Hid (w.grownBy (W9.alloc (chO (chD n))) (some B)) := grow_of_below (HG9.out.trans (hbD.mono HG9.out.size)) _
    by_cases hF : b.room < (b.text.size : Int) + (Bx.frames [chD n]).size
    · have HP' : Hid (feedP b n x = (b, ByteArray.empty, 13)) := by unfold Hid; rw [HP.out, if_pos hF]
      go_wp2_with fail
      refine (add_no b B _ _ _ _ [chD n] _ (by simp) hCk HO.out.txt hF hRD hBD).mono ?_
      rintro e w10 ⟨rfl, hb10⟩
      go_wp2_with fail
      go_ret2
      rw [HP'.out]
      exact ⟨⟨_, _, _, rfl, hBD.later hb10, Or.inl rfl⟩, TwoBy.of_grow (grow_trans HGD.out (grow_of_below hb10 _)) _⟩
    · have HP' : Hid (feedP b n x = ({ addB b [chD n] with talks := hushL (Bx.told b.now [chD n]) b.talks }, R.2, 0)) := by unfold Hid; rw [HP.out, if_neg hF]
      go_wp2_with fail
      refine (add_yes b B _ _ _ _ [chD n] _ HO.out.st (by simp) hCk HO.out.txt (by omega) hRD hBD).mono ?_
      rintro e w10 ⟨rfl, ⟨sl8, en8, hB8⟩, hg8⟩
      have hsl8 : (Bx.told b.now [chD n]).slots.length ≤ 8 := (Bx.told_ok HO.out.st _).sl
      go_wp2_with fail
      refine (hush_any (addB b [chD n]) B _ _ _ _ (by show (Bx.told b.now [chD n]).slots.length ≤ 10000; omega) (by show b.talks.length ≤ 1000; omega) hB8).mono ?_
      rintro e w11 ⟨rfl, ⟨tk9, hB9, hn9⟩, hg9⟩
      go_wp2_with fail
      go_ret2
      rw [HP'.out]
      exact ⟨⟨_, _, _, rfl, hB9, hn9.grow (grow_trans HGD.out hg8).size⟩, TwoBy.of_grow (grow_trans (grow_trans HGD.out hg8) hg9) _⟩
  · rw [if_neg hend] at HP
    obtain ⟨g, capg, hvg, hge, hgl⟩ := HB9.out.tk.form (by omega)
    cases hvg
    have HN : Hid (BoxIn _ B { b with talks := b.talks.set k R.1 } (.slice ad b.now.slots.length cap) (.slice ad2 b.now.ends.length cap2) (.slice (some ⟨bt, 0, none⟩) b.talks.length cap3)) := (HB9.out.tset hkl R.1).later (Below.refl _ _).drew
    obtain ⟨_, _, _, hvt, _, hct⟩ := HB9.out.tkr.1.some' (by omega)
    cases hvt
    have x0 : W9.cell? ⟨bt, k * 4, none⟩ = some (.int .i64 b.talks[k].num) := by have := RowAt.cell tkC_len hct k hkl 0 (by decide); simpa [tkC] using this
    have x1 : W9.cell? ⟨bt, k * 4 + 1, none⟩ = some (.int .i64 b.talks[k].at') := by have := RowAt.cell tkC_len hct k hkl 1 (by decide); simpa [tkC] using this
    have x2 : W9.cell? ⟨bt, k * 4 + 2, none⟩ = some (.int .i64 b.talks[k].since) := by have := RowAt.cell tkC_len hct k hkl 2 (by decide); simpa [tkC] using this
    have x3 : W9.cell? ⟨bt, k * 4 + 3, none⟩ = some (.string b.talks[k].heard) := by have := RowAt.cell tkC_len hct k hkl 3 (by decide); simpa [tkC] using this
    have g0 := row_frozen HB9.out.tk (k * 4)
    have g1 := row_frozen HB9.out.tk (k * 4 + 1)
    have g2 := row_frozen HB9.out.tk (k * 4 + 2)
    have g3 := row_frozen HB9.out.tk (k * 4 + 3)
    have c8 := HB9.out.c8
    clear hct
    have HP' : Hid (feedP b n x = ({ b with talks := b.talks.set k R.1 }, R.2, 0)) := HP.out
    have HTw : Hid (TwoBy w _ B (some bt)) := (TwoBy.of_grow (grow_of_below HG9.out _) _).trans ((TwoBy.of_grow2 (grow_set (grow_set (grow_set (grow_set (grow_refl W9 (some bt)) (k * 4) (.int .i64 R.1.num)) (k * 4 + 1) (.int .i64 R.1.at')) (k * 4 + 2) (.int .i64 R.1.since)) (k * 4 + 3) (.string R.1.heard)) B).trans (TwoBy.of_grow (grow_of_below (Below.refl _ _).drew _) _))
    go_wp2_with fail
    go_region
    go_wp2_with fail
    go_ret2
    rw [HP'.out]
    first | exact ⟨⟨_, _, _, rfl, HN.out, Or.inl rfl⟩, HTw.out⟩ | exact ⟨⟨rfl, _, _, _, HN.out, Or.inl rfl⟩, HTw.out⟩
end Go.Proofs.YtdajolpoiffimaaGreatDoor

namespace Go.Proofs.YtdajolpoiffimaaGreatDoor
open Go.RowKit

/-- The table of the months' lengths lies in memory. -/
def Tab (w : World) : Prop := ∀ m : Int, 1 ≤ m → m ≤ 12 → w.cell? ⟨2, m.toNat - 1, none⟩ = some (.int .i64 (Cal.len m))

set_option maxHeartbeats 400000 in
theorem isLeap_any (y : Int) (w : World) (h1 : 0 ≤ y) (h2 : y ≤ 10000) :
    Calls Tryz.prog 225 #[.int .i64 y] w fun e w' => e = .returned (.bool (Cal.lp y == 1)) ∧ w' = w := by
  by_cases a : y % 400 = 0
  · have e : Hid (Cal.lp y = 1) := Cal.lp_yes (Or.inl a)
    go_enter Tryz.func225, Tryz.ntmps225
    go_wp2
    go_ret
    exact ⟨by rw [e.out]; rfl, rfl⟩
  · by_cases b : y % 4 = 0
    · by_cases c : y % 100 = 0
      · have e : Hid (Cal.lp y = 0) := Cal.lp_no (by omega)
        go_enter Tryz.func225, Tryz.ntmps225
        go_wp2
        go_ret
        exact ⟨by rw [e.out]; rfl, rfl⟩
      · have e : Hid (Cal.lp y = 1) := Cal.lp_yes (Or.inr ⟨b, c⟩)
        have c' : (y % 100 != 0) = true := by simpa using c
        go_enter Tryz.func225, Tryz.ntmps225
        go_wp2
        go_ret
        exact ⟨by rw [e.out]; rfl, rfl⟩
    · have e : Hid (Cal.lp y = 0) := Cal.lp_no (by omega)
      go_enter Tryz.func225, Tryz.ntmps225
      go_wp2
      go_ret
      exact ⟨by rw [e.out]; rfl, rfl⟩

set_option maxHeartbeats 400000 in
theorem lyb_any (y : Int) (w : World) (h1 : 1970 ≤ y) (h2 : y ≤ 10000) :
    Calls Tryz.prog 209 #[.int .i64 y] w fun e w' => e = .returned (.int .i64 ((y - 1) / 4 - (y - 1) / 100 + (y - 1) / 400)) ∧ w' = w := by
  go_enter Tryz.func209, Tryz.ntmps209
  go_wp2
  go_ret
  exact ⟨rfl, rfl⟩

set_option maxHeartbeats 400000 in
theorem dby_any (y : Int) (w : World) (h1 : 1970 ≤ y) (h2 : y ≤ 10000) :
    Calls Tryz.prog 192 #[.int .i64 y] w fun e w' => e = .returned (.int .i64 (Cal.dby y)) ∧ w' = w := by
  have b1 : 0 ≤ (y - 1) / 4 - (y - 1) / 100 + (y - 1) / 400 ∧ (y - 1) / 4 - (y - 1) / 100 + (y - 1) / 400 ≤ 10000 := by omega
  go_enter Tryz.func192, Tryz.ntmps192
  go_wp2_with (go_at_call 209; refine (lyb_any _ _ (by omega) (by omega)).mono ?_; rintro e w' ⟨rfl, rfl⟩)
  go_ret
  exact ⟨ret_int (by unfold Cal.dby; omega), rfl⟩

set_option maxHeartbeats 400000 in
theorem dim_any (y m : Int) (w : World) (hT : Tab w) (h1 : 0 ≤ y) (h2 : y ≤ 10000) (m1 : 1 ≤ m) (m2 : m ≤ 12) :
    Calls Tryz.prog 210 #[.int .i64 y, .int .i64 m] w fun e w' => e = .returned (.int .i64 (Cal.dim y m)) ∧ w' = w := by
  have hc := hT m m1 m2
  clear hT
  by_cases a : m = 2
  · subst a
    by_cases b : Cal.lp y = 1
    · have e : Hid (Cal.dim y 2 = 29) := Cal.dim_29 b
      have b' : (Cal.lp y == 1) = true := by simpa using b
      clear b
      go_enter Tryz.func210, Tryz.ntmps210
      go_wp2_with (go_at_call 225; refine (isLeap_any _ _ (by omega) (by omega)).mono ?_; rintro e w' ⟨rfl, rfl⟩)
      go_ret
      exact ⟨ret_int e.out.symm, rfl⟩
    · have e : Hid (Cal.dim y 2 = 28) := (Cal.dim_len (Or.inr (by have := Cal.lp_01 y; omega))).trans rfl
      have hc2 : w.cell? ⟨2, 1, none⟩ = some (.int .i64 28) := hc
      clear hc
      have b' : (Cal.lp y == 1) = false := by simpa using b
      clear b
      go_enter Tryz.func210, Tryz.ntmps210
      go_wp2_with (go_at_call 225; refine (isLeap_any _ _ (by omega) (by omega)).mono ?_; rintro e w' ⟨rfl, rfl⟩)
      go_ret
      exact ⟨ret_int e.out.symm, rfl⟩
  · have e : Hid (Cal.dim y m = Cal.len m) := Cal.dim_len (Or.inl a)
    go_enter Tryz.func210, Tryz.ntmps210
    go_wp2_with fail
    go_ret
    exact ⟨ret_int e.out.symm, rfl⟩
end Go.Proofs.YtdajolpoiffimaaGreatDoor

namespace Go.Proofs.YtdajolpoiffimaaGreatDoor
open Go.RowKit

set_option maxHeartbeats 400000 in
theorem cum_any (y m : Int) (w : World) (hT : Tab w) (h1 : 0 ≤ y) (h2 : y ≤ 10000) (m1 : 1 ≤ m) (m2 : m ≤ 12) :
    Calls Tryz.prog 194 #[.int .i64 y, .int .i64 m] w fun e w' => e = .returned (.int .i64 (Cal.cum y m)) ∧ w' = w := by
  have HT : Hid (Tab w) := hT
  clear hT
  go_enter Tryz.func194, Tryz.ntmps194
  go_wp2
  go_loop [5, 6] (fun d k => ∃ b : Int, 1 ≤ b ∧ b ≤ m ∧ k = .int .i64 b ∧ d = .int .i64 (Cal.cum y b)) (fun _ k => (m - intOf k).toNat)
  case atStart => exact ⟨1, by omega, by omega, rfl, by rw [Cal.cum_1]⟩
  case round =>
    obtain ⟨b, hb1, hb2, rfl, rfl⟩ := hrel
    have cb := Cal.cum_bd y b
    have db := Cal.dim_lo y b
    have cs := Cal.cum_succ y b hb1 (by omega)
    have CS : Hid (Cal.cum y (b + 1) = Cal.cum y b + Cal.dim y b) := cs
    clear cs
    by_cases hlt : b < m
    · have h12 : b ≤ 12 := by omega
      go_wp2_with (go_at_call 210; refine (dim_any _ _ _ HT.out (by omega) (by omega) (by omega) (by omega)).mono ?_; rintro e w' ⟨rfl, rfl⟩)
      go_round
      case rel => exact ⟨b + 1, by omega, by omega, by go_num, by rw [CS.out]⟩
      case measure => simp [intOf]; omega
    · go_wp2_with fail
      go_ret
      obtain rfl : b = m := by omega
      exact ⟨rfl, rfl⟩

set_option maxHeartbeats 400000 in
theorem monthOf_any (y r : Int) (w : World) (hT : Tab w) (h1 : 0 ≤ y) (h2 : y ≤ 10000) (r1 : 0 ≤ r) (r2 : r < 365 + Cal.lp y) :
    Calls Tryz.prog 193 #[.int .i64 y, .int .i64 r] w fun e w' => (∃ m : Int, 1 ≤ m ∧ m ≤ 12 ∧ Cal.cum y m ≤ r ∧ r < Cal.cum y m + Cal.dim y m ∧ e = .returned (.int .i64 m)) ∧ w' = w := by
  have HT : Hid (Tab w) := hT
  clear hT
  have hl := Cal.lp_01 y
  go_enter Tryz.func193, Tryz.ntmps193
  go_wp2
  go_loop [5] (fun k => ∃ m : Int, 1 ≤ m ∧ m ≤ 12 ∧ Cal.cum y m ≤ r ∧ k = .int .i64 m) (fun k => (12 - intOf k).toNat)
  case atStart => exact ⟨1, by omega, by omega, by rw [Cal.cum_1]; exact r1, rfl⟩
  case round =>
    obtain ⟨m, hm1, hm2, hr, rfl⟩ := hrel
    have CS : Hid (Cal.cum y (m + 1) = Cal.cum y m + Cal.dim y m) := Cal.cum_succ y m hm1 hm2
    have C13 : Hid (Cal.cum y 13 = 365 + Cal.lp y) := Cal.cum_13 y
    by_cases hc : m < 12 ∧ Cal.cum y (m + 1) ≤ r
    · obtain ⟨hlt, hd⟩ := hc
      go_wp2_with (go_at_call 194; refine (cum_any _ _ _ HT.out (by omega) (by omega) (by omega) (by omega)).mono ?_; rintro e w' ⟨rfl, rfl⟩)
      go_round
      case rel => exact ⟨m + 1, by omega, by omega, hd, rfl⟩
      case measure => simp [intOf]; omega
    · have hz : r < Cal.cum y m + Cal.dim y m := by
        by_cases e : m = 12
        · subst e; have := CS.out; have := C13.out; have : Cal.cum y (12 + 1) = Cal.cum y 13 := rfl; omega
        · have := CS.out; omega
      have hn : m < 12 → r < Cal.cum y (m + 1) := by intro; have := CS.out; omega
      have HZ : Hid (r < Cal.cum y m + Cal.dim y m) := hz
      have HR : Hid (Cal.cum y m ≤ r) := hr
      clear hc hz hr
      by_cases hlt : m < 12
      · have hn' := hn hlt
        clear hn
        go_wp2_with (go_at_call 194; refine (cum_any _ _ _ HT.out (by omega) (by omega) (by omega) (by omega)).mono ?_; rintro e w' ⟨rfl, rfl⟩)
        go_ret
        exact ⟨⟨m, hm1, hm2, HR.out, HZ.out, rfl⟩, rfl⟩
      · clear hn
        go_wp2_with fail
        go_ret
        exact ⟨⟨m, hm1, hm2, HR.out, HZ.out, rfl⟩, rfl⟩

set_option maxHeartbeats 400000 in
theorem yearOf_any (n : Int) (w : World) (h1 : 0 ≤ n) (h2 : n ≤ 2932896) :
    Calls Tryz.prog 191 #[.int .i64 n] w fun e w' => (∃ y : Int, 1970 ≤ y ∧ y ≤ 9999 ∧ Cal.dby y ≤ n ∧ n < Cal.dby y + 365 + Cal.lp y ∧ e = .returned (.int .i64 y)) ∧ w' = w := by
  have g0 := Cal.dby_guess n h1
  go_enter Tryz.func191, Tryz.ntmps191
  go_wp2
  go_loop [3] (fun k => ∃ y : Int, 1970 ≤ y ∧ y ≤ 9999 ∧ Cal.dby y ≤ n ∧ k = .int .i64 y) (fun k => (9999 - intOf k).toNat)
  case atStart => exact ⟨_, by omega, by omega, g0, rfl⟩
  case round =>
    obtain ⟨y, hy1, hy2, hy3, rfl⟩ := hrel
    clear g0
    have DS : Hid (Cal.dby (y + 1) = Cal.dby y + 365 + Cal.lp y) := Cal.dby_succ y
    by_cases hc : y < 9999 ∧ Cal.dby (y + 1) ≤ n
    · obtain ⟨hlt, hd⟩ := hc
      go_wp2_with (go_at_call 192; refine (dby_any _ _ (by omega) (by omega)).mono ?_; rintro e w' ⟨rfl, rfl⟩)
      go_round
      case rel => exact ⟨y + 1, by omega, by omega, hd, rfl⟩
      case measure => simp [intOf]; omega
    · have hz : n < Cal.dby y + 365 + Cal.lp y := by
        by_cases e : y = 9999
        · subst e; have := DS.out; have : Cal.dby (9999 + 1) = 2932897 := Cal.dby_10000; omega
        · have := DS.out; omega
      have HZ : Hid (n < Cal.dby y + 365 + Cal.lp y) := hz
      have hn : y < 9999 → n < Cal.dby (y + 1) := by intro; omega
      have HR : Hid (Cal.dby y ≤ n) := hy3
      clear hc hz hy3
      by_cases hlt : y < 9999
      · have hn' := hn hlt
        clear hn
        go_wp2_with (go_at_call 192; refine (dby_any _ _ (by omega) (by omega)).mono ?_; rintro e w' ⟨rfl, rfl⟩)
        go_ret
        exact ⟨⟨y, hy1, hy2, HR.out, HZ.out, rfl⟩, rfl⟩
      · clear hn
        go_wp2_with fail
        go_ret
        exact ⟨⟨y, hy1, hy2, HR.out, HZ.out, rfl⟩, rfl⟩
end Go.Proofs.YtdajolpoiffimaaGreatDoor

namespace Go.Proofs.YtdajolpoiffimaaGreatDoor
open Go.RowKit

theorem Tab.later {w w' : World} (h : Tab w) (hb : Below w.heap.size w w') : Tab w' := fun m a b => cell_later hb (h m a b)
theorem Tab.alloc {w : World} (h : Tab w) (o : Obj) : Tab (w.alloc o) := h.later ((Below.refl _ _).alloc (Nat.le_refl _) _)

set_option maxHeartbeats 400000 in
theorem cdate_no (m : Int) (w : World) (h : m < 0 ∨ 4223371679 < m) :
    Calls Tryz.prog 156 #[.int .i64 m] w fun e w' => e = .returned (.tuple #[dateV 0 0 0 0 0 0, .int .i64 4]) ∧ Below w.heap.size w w' := by
  by_cases h0 : m < 0
  · go_enter Tryz.func156, Tryz.ntmps156
    go_wp2_with fail
    exact bodyPost_ret (v := .tuple #[dateV 0 0 0 0 0 0, .int .i64 4]) (by simp [results, Tryz.results156, go_sem]) rfl ⟨rfl, (Below.refl _ _).alloc (Nat.le_refl _) _⟩
  · have h' : 4223371679 < m := by omega
    go_enter Tryz.func156, Tryz.ntmps156
    go_wp2_with fail
    exact bodyPost_ret (v := .tuple #[dateV 0 0 0 0 0 0, .int .i64 4]) (by simp [results, Tryz.results156, go_sem]) rfl ⟨rfl, (Below.refl _ _).alloc (Nat.le_refl _) _⟩

set_option maxHeartbeats 1000000 in
theorem cdate_yes (m : Int) (w : World) (hT : Tab w) (h0 : 0 ≤ m) (h1 : m ≤ 4223371679) :
    Calls Tryz.prog 156 #[.int .i64 m] w fun e w' => (∃ y mo d : Int, Cal.IsD (m / 1440) y mo d ∧ e = .returned (.tuple #[dateV y mo d (m % 1440 / 60) (m % 60) ((m / 1440 + 4) % 7), .int .i64 0])) ∧ Below w.heap.size w w' := by
  have HT : Hid (∀ o, Tab (w.alloc o)) := fun o => hT.alloc o
  clear hT
  go_enter Tryz.func156, Tryz.ntmps156
  go_wp2_with (first | (go_at_call 191; refine (yearOf_any _ _ (by omega) (by omega)).mono ?_; rintro e w' ⟨⟨y, hy1, hy2, hy3, hy4, rfl⟩, rfl⟩; have hl := Cal.lp_01 y; have hb := Cal.dby_bd hy1 (Int.le_trans hy2 (by omega))) | (go_at_call 192; refine (dby_any _ _ (by omega) (by omega)).mono ?_; rintro e w' ⟨rfl, rfl⟩) | (go_at_call 193; refine (monthOf_any _ _ _ (HT.out _) (by omega) (by omega) (by omega) (by omega)).mono ?_; rintro e w' ⟨⟨mo, hm1, hm2, hm3, hm4, rfl⟩, rfl⟩; have cb := Cal.cum_bd y mo; have db := Cal.dim_lo y mo) | (go_at_call 194; refine (cum_any _ _ _ (HT.out _) (by omega) (by omega) (by omega) (by omega)).mono ?_; rintro e w' ⟨rfl, rfl⟩))
  refine bodyPost_ret (v := .tuple #[dateV y mo (m / 1440 - Cal.dby y - Cal.cum y mo + 1) (m % 1440 / 60) (m % 60) ((m / 1440 + 4) % 7), .int .i64 0]) (by simp [results, Tryz.results156, go_sem]) rfl
    ⟨⟨y, mo, _, ⟨hy1, hy2, hm1, hm2, by omega, by omega, by omega⟩, rfl⟩, ((Below.refl _ _).alloc (Nat.le_refl _) _).alloc (by simp) _⟩
end Go.Proofs.YtdajolpoiffimaaGreatDoor

namespace Go.Proofs.YtdajolpoiffimaaGreatDoor
open Go.RowKit
attribute [local go_sem] conv1 isU8_int cellInt_int strOfNums_one Bx.be_size

set_option maxHeartbeats 1000000 in
theorem digits_any (n : Int) (k : Nat) (w : World) (h1 : 0 ≤ n) (h2 : n ≤ 9223372036854775807) (hk : k ≤ 10) :
    Calls Tryz.prog 99 #[.int .i64 n, .int .i64 k] w fun e w' => e = .returned (.string (Bx.be n k)) ∧ Below w.heap.size w w' := by
  go_enter Tryz.func99, Tryz.ntmps99
  go_wp2_with fail
  go_loopw [0, 5, 6] (fun a t i wr => ∃ j : Nat, j ≤ k ∧ i = .int .i64 j ∧ a = .int .i64 (n / 256 ^ j) ∧ t = .string (Bx.be n j) ∧ Below w.heap.size w wr) (fun _ _ i _ => k - (intOf i).toNat)
  case atStart => exact ⟨0, Nat.zero_le _, rfl, by simp, rfl, Below.refl _ _⟩
  case round =>
    obtain ⟨j, hj, rfl, rfl, rfl, hbr⟩ := hrel
    have hm1 : 0 ≤ n / 256 ^ j := Int.ediv_nonneg h1 (Int.pow_nonneg (by omega))
    have hm2 : n / 256 ^ j ≤ 9223372036854775807 := Int.le_trans (Int.ediv_le_self _ h1) h2
    have H1 : Hid (strOfNums [n / 256 ^ j % 256] ++ Bx.be n j = Bx.be n (j + 1)) := low_str n j
    have H2 : Hid (n / 256 ^ j / 256 = n / 256 ^ (j + 1)) := low_div n j
    generalize n / 256 ^ j = m at *
    by_cases hlt : j < k
    · have q0 : IntKind.i64.wrap (m.tdiv 256) = m / 256 := by rw [Int.tdiv_eq_ediv_of_nonneg hm1, IntKind.wrap_i64]; omega
      have q1 : IntKind.u8.wrap (m.tmod 256) = m % 256 := by rw [Int.tmod_eq_emod_of_nonneg hm1, IntKind.wrap_u8]; omega
      have q3 : ¬ 9223372036854775807 < 1 + j := by omega
      go_wp2_with fail
      go_roundw
      case rel => exact ⟨j + 1, by omega, by go_num, by rw [← H2.out], by rw [← H1.out], hbr.alloc hbr.size _⟩
      case measure => simp [intOf]; omega
    · obtain rfl : j = k := by omega
      go_wp2_with fail
      go_ret
      exact ⟨rfl, hbr⟩
theorem digits_at (a b n : Int) (k : Nat) (w : World) (ha : a = n) (hb : b = k) (h1 : 0 ≤ n) (h2 : n ≤ 9223372036854775807) (hk : k ≤ 10) :
    Calls Tryz.prog 99 #[.int .i64 a, .int .i64 b] w fun e w' => e = .returned (.string (Bx.be n k)) ∧ Below w.heap.size w w' := by
  subst ha; subst hb; exact digits_any a k w h1 h2 hk
set_option maxHeartbeats 1000000 in
theorem framed_any (s : ByteArray) (w : World) (hs : s.size ≤ 100000) :
    Calls Tryz.prog 102 #[.string s] w fun e w' => e = .returned (.string (Bx.frame s)) ∧ Below w.heap.size w w' := by
  have B := sumR_bd s
  have q1 : ¬ 9223372036854775807 < 2 + s.size := by omega
  have q2 : ¬ 9223372036854775807 < 2 + s.size + 4 := by omega
  have HB : Hid (Bx.be (s.size : Int) 2 ++ s ++ Bx.be (Crc.sumR s) 4 = Bx.frame s) := rfl
  go_enter Tryz.func102, Tryz.ntmps102
  go_wp2_with fail
  refine (digits_at _ _ (s.size : Int) 2 _ rfl rfl (by omega) (by omega) (by decide)).mono ?_
  rintro e w1 ⟨rfl, b1⟩
  go_wp2_with fail
  refine (fsum_any s _ (by unfold maxLen; omega)).mono ?_
  rintro e w2 ⟨rfl, rfl⟩
  go_wp2_with fail
  refine (digits_at _ _ (Crc.sumR s) 4 _ rfl rfl (by omega) (by omega) (by decide)).mono ?_
  rintro e w3 ⟨rfl, b3⟩
  go_wp2_with fail
  go_ret
  exact ⟨ret_str HB.out, b1.trans (b3.mono b1.size)⟩
set_option maxHeartbeats 1000000 in
theorem ftab_any (tab : ByteArray) (w : World) (hs : tab.size ≤ 300) :
    Calls Tryz.prog 69 #[.string tab] w fun e w' => e = .returned (.string (Bx.frame (Bx.body (chT tab)))) ∧ Below w.heap.size w w' := by
  have q1 : ¬ 9223372036854775807 < 1 + tab.size := by omega
  have HB : Hid ((⟨#[84]⟩ : ByteArray) ++ tab = Bx.body (chT tab)) := rfl
  have hz : ((⟨#[84]⟩ : ByteArray) ++ tab).size ≤ 100000 := by simp [ByteArray.size_append]; show 1 + _ ≤ _; omega
  go_enter Tryz.func69, Tryz.ntmps69
  go_wp2_with fail
  refine (framed_any _ _ hz).mono ?_
  rintro e w1 ⟨rfl, b1⟩
  rw [HB.out]
  go_wp2_with fail
  go_ret
  exact ⟨rfl, b1⟩
set_option maxHeartbeats 1000000 in
theorem fclock_any (m : Int) (w : World) (h1 : 0 ≤ m) (h2 : m ≤ 4223371679) :
    Calls Tryz.prog 72 #[.int .i64 m] w fun e w' => e = .returned (.string (Bx.frame (Bx.body (chCl m)))) ∧ Below w.heap.size w w' := by
  have HB : Hid ((⟨#[67]⟩ : ByteArray) ++ Bx.be m 5 = Bx.body (chCl m)) := rfl
  have hz : ((⟨#[67]⟩ : ByteArray) ++ Bx.be m 5).size ≤ 100000 := by rw [ByteArray.size_append, Bx.be_size]; decide
  go_enter Tryz.func72, Tryz.ntmps72
  go_wp2_with fail
  refine (digits_at _ _ m 5 _ rfl rfl (by omega) (by omega) (by decide)).mono ?_
  rintro e w1 ⟨rfl, b1⟩
  go_wp2_with fail
  refine (framed_any _ _ hz).mono ?_
  rintro e w2 ⟨rfl, b2⟩
  rw [HB.out]
  go_wp2_with fail
  go_ret
  exact ⟨rfl, b1.trans (b2.mono b1.size)⟩
set_option maxHeartbeats 1000000 in
theorem ofSlot_any (c : UInt8) (k n : Int) (w : World) (hk : (⟨#[c]⟩ : ByteArray) = Bx.b1 k) (hk1 : ¬ k = 84) (hk2 : ¬ k = 67) (h1 : 0 ≤ n) (h2 : n ≤ 100000) :
    Calls Tryz.prog 126 #[.string ⟨#[c]⟩, .int .i64 n] w fun e w' => e = .returned (.string (Bx.frame (Bx.body ⟨k, ⟨#[]⟩, n⟩))) ∧ Below w.heap.size w w' := by
  have HB : Hid ((⟨#[c]⟩ : ByteArray) ++ Bx.be n 2 = Bx.body ⟨k, ⟨#[]⟩, n⟩) := by
    unfold Hid Bx.body; rw [if_neg hk1, if_neg hk2, hk]
  have hz : ((⟨#[c]⟩ : ByteArray) ++ Bx.be n 2).size ≤ 100000 := by rw [ByteArray.size_append, Bx.be_size]; show 1 + 2 ≤ _; decide
  clear hk
  go_enter Tryz.func126, Tryz.ntmps126
  go_wp2_with fail
  refine (digits_at _ _ n 2 _ rfl rfl (by omega) (by omega) (by decide)).mono ?_
  rintro e w1 ⟨rfl, b1⟩
  have hcz : (⟨#[c]⟩ : ByteArray).size = 1 := rfl
  go_wp2_with fail
  refine (framed_any _ _ hz).mono ?_
  rintro e w2 ⟨rfl, b2⟩
  rw [HB.out]
  go_wp2_with fail
  go_ret
  exact ⟨rfl, b1.trans (b2.mono b1.size)⟩
set_option maxHeartbeats 1000000 in
theorem fstart_any (n : Int) (w : World) (h1 : 0 ≤ n) (h2 : n ≤ 100000) :
    Calls Tryz.prog 83 #[.int .i64 n] w fun e w' => e = .returned (.string (Bx.frame (Bx.body (chS n)))) ∧ Below w.heap.size w w' := by
  go_enter Tryz.func83, Tryz.ntmps83
  go_wp2_with fail
  refine (ofSlot_any 83 83 n _ (by decide) (by omega) (by omega) h1 h2).mono ?_
  rintro e w1 ⟨rfl, b1⟩
  go_wp2_with fail
  go_ret
  exact ⟨rfl, b1⟩
set_option maxHeartbeats 1000000 in
theorem fdone_any (n : Int) (w : World) (h1 : 0 ≤ n) (h2 : n ≤ 100000) :
    Calls Tryz.prog 130 #[.int .i64 n] w fun e w' => e = .returned (.string (Bx.frame (Bx.body (chD n)))) ∧ Below w.heap.size w w' := by
  go_enter Tryz.func130, Tryz.ntmps130
  go_wp2_with fail
  refine (ofSlot_any 68 68 n _ (by decide) (by omega) (by omega) h1 h2).mono ?_
  rintro e w1 ⟨rfl, b1⟩
  go_wp2_with fail
  go_ret
  exact ⟨rfl, b1⟩
set_option maxHeartbeats 1000000 in
theorem ffail_any (n : Int) (w : World) (h1 : 0 ≤ n) (h2 : n ≤ 100000) :
    Calls Tryz.prog 75 #[.int .i64 n] w fun e w' => e = .returned (.string (Bx.frame (Bx.body (chF n)))) ∧ Below w.heap.size w w' := by
  go_enter Tryz.func75, Tryz.ntmps75
  go_wp2_with fail
  refine (ofSlot_any 70 70 n _ (by decide) (by omega) (by omega) h1 h2).mono ?_
  rintro e w1 ⟨rfl, b1⟩
  go_wp2_with fail
  go_ret
  exact ⟨rfl, b1⟩
end Go.Proofs.YtdajolpoiffimaaGreatDoor

namespace Go.Proofs.YtdajolpoiffimaaGreatDoor
open Go.RowKit

theorem info_ps : (Tryz.prog.info? 154).map (fun i => (i.zero, i.size, i.bytes)) = some (some (.agg #[.int .i64 0, .int .i64 0, .int .i64 0, .int .i64 0, .int .i64 0, .int .i64 0, .int .i64 0, .string ByteArray.empty]), 8, 72) := by kernel_rfl
theorem info_en : (Tryz.prog.info? 95).map (fun i => (i.zero, i.size, i.bytes)) = some (some (.agg #[.int .i64 0, .string ByteArray.empty]), 2, 24) := by kernel_rfl
abbrev psV (x : Px.Sl) : Value := .agg #[.int .i64 x.num, .int .i64 x.line, .int .i64 x.minute, .int .i64 x.att, .int .i64 x.frm, .int .i64 x.step, .int .i64 x.ans, .string x.heard]
abbrev psO (x : Px.Sl) : Obj := .cells #[.int .i64 x.num, .int .i64 x.line, .int .i64 x.minute, .int .i64 x.att, .int .i64 x.frm, .int .i64 x.step, .int .i64 x.ans, .string x.heard] 154
/-- A slot lies in a block of its own. -/
structure PsIn (W : World) (q : Nat) (x : Px.Sl) : Prop where
  c0 : W.cell? ⟨q, 0, none⟩ = some (.int .i64 x.num)
  c1 : W.cell? ⟨q, 1, none⟩ = some (.int .i64 x.line)
  c2 : W.cell? ⟨q, 2, none⟩ = some (.int .i64 x.minute)
  c3 : W.cell? ⟨q, 3, none⟩ = some (.int .i64 x.att)
  c4 : W.cell? ⟨q, 4, none⟩ = some (.int .i64 x.frm)
  c5 : W.cell? ⟨q, 5, none⟩ = some (.int .i64 x.step)
  c6 : W.cell? ⟨q, 6, none⟩ = some (.int .i64 x.ans)
  c7 : W.cell? ⟨q, 7, none⟩ = some (.string x.heard)
theorem PsIn.new (w : World) (x : Px.Sl) : PsIn (w.alloc (psO x)) w.heap.size x := ⟨by simp [go_sem], by simp [go_sem], by simp [go_sem], by simp [go_sem], by simp [go_sem], by simp [go_sem], by simp [go_sem], by simp [go_sem]⟩
theorem PsIn.later {W W' : World} {q : Nat} {x : Px.Sl} (h : PsIn W q x) (hb : Below W.heap.size W W') : PsIn W' q x := ⟨cell_later hb h.c0, cell_later hb h.c1, cell_later hb h.c2, cell_later hb h.c3, cell_later hb h.c4, cell_later hb h.c5, cell_later hb h.c6, cell_later hb h.c7⟩
theorem PsIn.below {W W' : World} {q n : Nat} {x : Px.Sl} (h : PsIn W q x) (hq : q < n) (hb : Below n W W') : PsIn W' q x := by
  have c : ∀ j u, W.cell? ⟨q, j, none⟩ = some u → W'.cell? ⟨q, j, none⟩ = some u := fun j u h => (hb.cell (p := ⟨q, j, none⟩) hq).trans h
  exact ⟨c _ _ h.c0, c _ _ h.c1, c _ _ h.c2, c _ _ h.c3, c _ _ h.c4, c _ _ h.c5, c _ _ h.c6, c _ _ h.c7⟩
/-- A slot's eight cells. -/
theorem ps_cells {w : World} {L : List Px.Sl} {b off : Nat} (c : ∀ j (h : j < (L.flatMap psC).length), w.cell? ⟨b, off + j, none⟩ = some (L.flatMap psC)[j]) (i : Nat) (hi : i < L.length) :
    w.cell? ⟨b, off + i * 8, none⟩ = some (.int .i64 L[i].num) ∧ w.cell? ⟨b, off + i * 8 + 1, none⟩ = some (.int .i64 L[i].line) ∧ w.cell? ⟨b, off + i * 8 + 2, none⟩ = some (.int .i64 L[i].minute) ∧ w.cell? ⟨b, off + i * 8 + 3, none⟩ = some (.int .i64 L[i].att) ∧ w.cell? ⟨b, off + i * 8 + 4, none⟩ = some (.int .i64 L[i].frm) ∧ w.cell? ⟨b, off + i * 8 + 5, none⟩ = some (.int .i64 L[i].step) ∧ w.cell? ⟨b, off + i * 8 + 6, none⟩ = some (.int .i64 L[i].ans) ∧ w.cell? ⟨b, off + i * 8 + 7, none⟩ = some (.string L[i].heard) :=
  ⟨RowAt.cell psC_len c i hi 0 (by decide), RowAt.cell psC_len c i hi 1 (by decide), RowAt.cell psC_len c i hi 2 (by decide), RowAt.cell psC_len c i hi 3 (by decide), RowAt.cell psC_len c i hi 4 (by decide), RowAt.cell psC_len c i hi 5 (by decide), RowAt.cell psC_len c i hi 6 (by decide), RowAt.cell psC_len c i hi 7 (by decide)⟩
theorem psC_new (w : World) (x : Px.Sl) (t : TypeId) : ∀ j u, (psC x)[j]? = some u → (w.alloc (.cells #[.int .i64 x.num, .int .i64 x.line, .int .i64 x.minute, .int .i64 x.att, .int .i64 x.frm, .int .i64 x.step, .int .i64 x.ans, .string x.heard] t)).cell? ((⟨w.heap.size, 0, none⟩ : Addr).add j) = some u := by
  intro j u hj
  match j, hj with
  | 0, hj => simp [psC] at hj; subst hj; simp [Addr.add, go_sem]
  | 1, hj => simp [psC] at hj; subst hj; simp [Addr.add, go_sem]
  | 2, hj => simp [psC] at hj; subst hj; simp [Addr.add, go_sem]
  | 3, hj => simp [psC] at hj; subst hj; simp [Addr.add, go_sem]
  | 4, hj => simp [psC] at hj; subst hj; simp [Addr.add, go_sem]
  | 5, hj => simp [psC] at hj; subst hj; simp [Addr.add, go_sem]
  | 6, hj => simp [psC] at hj; subst hj; simp [Addr.add, go_sem]
  | 7, hj => simp [psC] at hj; subst hj; simp [Addr.add, go_sem]
theorem own_mono' {w : World} {base base' : Nat} {e : TypeId} {size : Nat} {v : Value} {n : Nat} {xs : List Value} (h : w.ownsRow base e size v n xs) (hb : base' ≤ base) : w.ownsRow base' e size v n xs := by
  refine ⟨h.1, ?_⟩
  rcases h.2 with h2 | ⟨g, cap, cur, hv, hbase, h3⟩
  · exact Or.inl h2
  · exact Or.inr ⟨g, cap, cur, hv, Nat.le_trans hb hbase, h3⟩
theorem own_empty (w : World) (e : TypeId) (size : Nat) : (w.alloc (.cells #[] e)).ownsRow w.heap.size e size (.slice (some ⟨w.heap.size, 0, none⟩) 0 0) 0 [] :=
  ⟨by simp, Or.inr ⟨w.heap.size, 0, #[], rfl, Nat.le_refl _, (MapKept.heap_alloc w _).1, Nat.le_refl _, Nat.zero_le _, by simp, by simp⟩⟩

set_option maxHeartbeats 1000000 in
theorem pwithout_any (l : List Px.Sl) (n : Int) (sl : Value) (w : World) (hl : l.length ≤ 10000) (hS : RowAt w sl l.length (l.flatMap psC)) :
    Calls Tryz.prog 161 #[sl, .int .i64 n] w fun e w' => (∃ v, e = .returned v ∧ w'.ownsRow w.heap.size 154 8 v (Px.skip l n).length ((Px.skip l n).flatMap psC)) ∧ Below w.heap.size w w' := by
  obtain ⟨i0, hi, hz0, hz1, hz2⟩ := info_parts info_ps
  obtain ⟨ad, cap, rfl, hcap⟩ := hS.form
  have HR : Hid (RowAt w (.slice ad l.length cap) l.length (l.flatMap psC)) := hS
  clear hS
  go_enter Tryz.func161, Tryz.ntmps161
  go_wp2_with fail
  have HO := own_empty w 154 8
  have hb0 := below_alloc w (.cells #[] 154)
  obtain ⟨W, hW⟩ : ∃ W, W = w := ⟨w, rfl⟩
  have HW : Hid (W = w) := hW
  have HB : Hid (Below W.heap.size W (w.alloc (.cells #[] 154))) := by rw [hW]; exact hb0
  have HO' : Hid ((w.alloc (.cells #[] 154)).ownsRow W.heap.size 154 8 (.slice (some ⟨w.heap.size, 0, none⟩) 0 0) 0 []) := by rw [hW]; exact HO
  have HR' : Hid (RowAt W (.slice ad l.length cap) l.length (l.flatMap psC)) := by rw [hW]; exact HR.out
  clear hW HO hb0 HR
  go_loopw [5, 6] (fun v i wr => ∃ k : Nat, k ≤ l.length ∧ i = .int .i64 k ∧ wr.ownsRow W.heap.size 154 8 v (Px.skip (l.take k) n).length ((Px.skip (l.take k) n).flatMap psC) ∧ Below W.heap.size W wr) (fun _ i _ => l.length - (intOf i).toNat)
  case atStart => exact ⟨0, Nat.zero_le _, rfl, HO'.out, HB.out⟩
  case round =>
    obtain ⟨k, hk, rfl, hown, hbr⟩ := hrel
    have hsz := hbr.size
    by_cases hlt : k < l.length
    · obtain ⟨b, off, cap', hv, _, hc⟩ := (HR'.out.later hbr).some' (by omega)
      cases hv
      obtain ⟨d0, d1, d2, d3, d4, d5, d6, d7⟩ := ps_cells hc k hlt
      clear hc
      have b1 : (0 : Int) ≤ (k : Int) := by omega
      have b2 : (k : Int) < (l.length : Int) := by omega
      have hn : (Px.skip (l.take k) n).length ≤ k := by
        have := List.length_filter_le (fun x : Px.Sl => x.num != n) (l.take k)
        unfold Px.skip; simp at this ⊢; omega
      cases he : (l[k].num != n)
      · have HF : Hid (Px.skip (l.take (k + 1)) n = Px.skip (l.take k) n) := Px.skip_no hlt he
        generalize l[k] = x at *
        clear d1 d2 d3 d4 d5 d6 d7
        go_wp2_with fail
        go_roundw
        case rel => exact ⟨k + 1, by omega, by go_num, by rw [HF.out]; exact hown, hbr⟩
        case measure => simp [intOf]; omega
      · have HF : Hid (Px.skip (l.take (k + 1)) n = Px.skip (l.take k) n ++ [l[k]]) := Px.skip_yes hlt he
        generalize l[k] = x at *
        generalize Px.skip (l.take k) n = L at *
        go_wp2_with (at_builtin; refine wpList_append_lies _ rfl (.tmp 21) (.tmp 26) 62 rfl W.heap.size 154 i0 (.agg #[.int .i64 0, .int .i64 0, .int .i64 0, .int .i64 0, .int .i64 0, .int .i64 0, .int .i64 0, .string ByteArray.empty]) 8 72 Tryz.underlying62 hi hz0 hz1 hz2 rfl (by decide) _ _ _ rfl (hown.alloc _) ⟨wr.heap.size, 0, none⟩ 1 1 (psC x) rfl rfl (psC_new _ _ _) (psC_one x) (by decide) ?c3 ?c4 ?c5 _ rfl ?_)
        case c3 => unfold maxLen; omega
        case c4 => omega
        case c5 => simp; omega
        · intro g cap1 w1 hown' hgrow _ hlt'
          have B1 : Below W.heap.size W w1 := (hbr.alloc hsz _).grown hgrow (by simp; omega) (fun k' e => (hown.lt k' e).1)
          have hown2 : w1.ownsRow W.heap.size 154 8 (.slice (some ⟨g, 0, none⟩) (L.length + 1) cap1) (L ++ [x]).length ((L ++ [x]).flatMap psC) := by simpa using hown'
          clear hown' hgrow hown hbr d0 d1 d2 d3 d4 d5 d6 d7
          go_wp2_with fail
          go_roundw
          case rel => exact ⟨k + 1, by omega, by go_num, by rw [HF.out]; exact hown2, B1⟩
          case measure => simp [intOf]; omega
    · obtain rfl : k = l.length := by omega
      rw [List.take_length] at hown
      go_wp2_with fail
      go_ret
      have := HW.out
      subst this
      exact ⟨⟨_, rfl, hown⟩, hbr⟩

set_option maxHeartbeats 2000000 in
theorem preplaced_any (l : List Px.Sl) (x : Px.Sl) (sl : Value) (w : World) (hl : l.length ≤ 10000) (hS : RowAt w sl l.length (l.flatMap psC)) :
    Calls Tryz.prog 125 #[sl, psV x] w fun e w' => (∃ v, e = .returned v ∧ w'.ownsRow w.heap.size 154 8 v (Px.repl l x).length ((Px.repl l x).flatMap psC)) ∧ Below w.heap.size w w' := by
  obtain ⟨i0, hi, hz0, hz1, hz2⟩ := info_parts info_ps
  obtain ⟨ad, cap, rfl, hcap⟩ := hS.form
  have HR : Hid (RowAt w (.slice ad l.length cap) l.length (l.flatMap psC)) := hS
  clear hS
  have hb00 := below_alloc w (psO x)
  have hX0 := PsIn.new w x
  have hq0 : w.heap.size < (w.alloc (psO x)).heap.size := by simp
  have hs0 : w.heap.size ≤ (w.alloc (psO x)).heap.size := by simp
  have HO0 := own_empty (w.alloc (psO x)) 154 8
  have hb1 := below_alloc (w.alloc (psO x)) (.cells #[] 154)
  go_enter Tryz.func125, Tryz.ntmps125
  go_upto_region 1 with fail
  generalize w.alloc (psO x) = W at *
  have HB : Hid (Below w.heap.size w W) := hb00
  have HB1 : Hid (Below W.heap.size W (W.alloc (.cells #[] 154))) := hb1
  have HO' : Hid ((W.alloc (.cells #[] 154)).ownsRow W.heap.size 154 8 (.slice (some ⟨W.heap.size, 0, none⟩) 0 0) 0 []) := HO0
  have HR' : Hid (RowAt W (.slice ad l.length cap) l.length (l.flatMap psC)) := HR.out.later hb00
  have HX : Hid (PsIn W w.heap.size x) := hX0
  clear hX0 hb00 hb1 HO0 HR
  go_wp2_with fail
  go_loopw [5, 6] (fun v i wr => ∃ k : Nat, k ≤ l.length ∧ i = .int .i64 k ∧ wr.ownsRow W.heap.size 154 8 v (Px.repl (l.take k) x).length ((Px.repl (l.take k) x).flatMap psC) ∧ Below W.heap.size W wr) (fun _ i _ => l.length - (intOf i).toNat)
  case atStart => exact ⟨0, Nat.zero_le _, rfl, HO'.out, HB1.out⟩
  case round =>
    obtain ⟨k, hk, rfl, hown, hbr⟩ := hrel
    have hsz := hbr.size
    by_cases hlt : k < l.length
    · obtain ⟨b, off, cap', hv, _, hc⟩ := (HR'.out.later hbr).some' (by omega)
      cases hv
      have b1 : (0 : Int) ≤ (k : Int) := by omega
      have b2 : (k : Int) < (l.length : Int) := by omega
      have hn : (Px.repl (l.take k) x).length ≤ k := by simp [Px.repl]; omega
      obtain ⟨c0, c1, c2, c3, c4, c5, c6, c7⟩ := ps_cells hc k hlt
      obtain ⟨d0, d1, d2, d3, d4, d5, d6, d7⟩ := HX.out.below hq0 hbr
      clear hc
      cases he : (l[k].num == x.num)
      · have HF : Hid (Px.repl (l.take (k + 1)) x = Px.repl (l.take k) x ++ [l[k]]) := Px.repl_no hlt he
        generalize l[k] = y at *
        generalize Px.repl (l.take k) x = L at *
        go_wp2_with fail
        go_quiet (fail)
        clear d0 d1 d2 d3 d4 d5 d6 d7
        have d0 := c0; have d1 := c1; have d2 := c2; have d3 := c3; have d4 := c4; have d5 := c5; have d6 := c6; have d7 := c7
        clear c0 c1 c2 c3 c4 c5 c6 c7
        go_wp2_with (at_builtin; refine wpList_append_lies _ rfl (.tmp 26) (.tmp 31) 62 rfl W.heap.size 154 i0 (.agg #[.int .i64 0, .int .i64 0, .int .i64 0, .int .i64 0, .int .i64 0, .int .i64 0, .int .i64 0, .string ByteArray.empty]) 8 72 Tryz.underlying62 hi hz0 hz1 hz2 rfl (by decide) _ _ _ rfl (hown.alloc _) ⟨wr.heap.size, 0, none⟩ 1 1 (psC y) rfl rfl (psC_new _ _ _) (psC_one y) (by decide) ?c3 ?c4 ?c5 _ rfl ?_)
        case c3 => unfold maxLen; omega
        case c4 => omega
        case c5 => simp; omega
        · intro g cap1 w1 hown' hgrow _ hlt'
          have B1 : Below W.heap.size W w1 := ((below_drewN hbr _).alloc hsz _).grown hgrow (by simp; omega) (fun k' e => (hown.lt k' e).1)
          have hown2 : w1.ownsRow W.heap.size 154 8 (.slice (some ⟨g, 0, none⟩) (L.length + 1) cap1) (L ++ [y]).length ((L ++ [y]).flatMap psC) := by simpa using hown'
          clear hown' hgrow hown hbr d0 d1 d2 d3 d4 d5 d6 d7
          go_wp2_with fail
          go_roundw
          case rel => exact ⟨k + 1, by omega, by go_num, by rw [HF.out]; exact hown2, B1⟩
          case measure => simp [intOf]; omega
      · have HF : Hid (Px.repl (l.take (k + 1)) x = Px.repl (l.take k) x ++ [x]) := Px.repl_yes hlt he
        generalize l[k] = y at *
        generalize Px.repl (l.take k) x = L at *
        go_wp2_with fail
        go_quiet (fail)
        clear c0 c1 c2 c3 c4 c5 c6 c7
        go_wp2_with (at_builtin; refine wpList_append_lies _ rfl (.tmp 22) (.tmp 24) 62 rfl W.heap.size 154 i0 (.agg #[.int .i64 0, .int .i64 0, .int .i64 0, .int .i64 0, .int .i64 0, .int .i64 0, .int .i64 0, .string ByteArray.empty]) 8 72 Tryz.underlying62 hi hz0 hz1 hz2 rfl (by decide) _ _ _ rfl (hown.alloc _) ⟨wr.heap.size, 0, none⟩ 1 1 (psC x) rfl rfl (psC_new _ _ _) (psC_one x) (by decide) ?c3 ?c4 ?c5 _ rfl ?_)
        case c3 => unfold maxLen; omega
        case c4 => omega
        case c5 => simp; omega
        · intro g cap1 w1 hown' hgrow _ hlt'
          have B1 : Below W.heap.size W w1 := ((below_drewN hbr _).alloc hsz _).grown hgrow (by simp; omega) (fun k' e => (hown.lt k' e).1)
          have hown2 : w1.ownsRow W.heap.size 154 8 (.slice (some ⟨g, 0, none⟩) (L.length + 1) cap1) (L ++ [x]).length ((L ++ [x]).flatMap psC) := by simpa using hown'
          clear hown' hgrow hown hbr d0 d1 d2 d3 d4 d5 d6 d7
          go_wp2_with fail
          go_roundw
          case rel => exact ⟨k + 1, by omega, by go_num, by rw [HF.out]; exact hown2, B1⟩
          case measure => simp [intOf]; omega
    · obtain rfl : k = l.length := by omega
      rw [List.take_length] at hown
      go_wp2_with fail
      go_ret
      exact ⟨⟨_, rfl, own_mono' hown hs0⟩, HB.out.trans (hbr.mono HB.out.size)⟩
end Go.Proofs.YtdajolpoiffimaaGreatDoor

namespace Go.Proofs.YtdajolpoiffimaaGreatDoor
open Go.RowKit

set_option maxHeartbeats 2000000 in
theorem pwithSlot_any (l : List Px.Sl) (x : Px.Sl) (sl : Value) (w : World) (hl : l.length ≤ 10000) (hS : RowAt w sl l.length (l.flatMap psC)) :
    Calls Tryz.prog 160 #[sl, psV x] w fun e w' => (∃ v, e = .returned v ∧ w'.ownsRow w.heap.size 154 8 v (l ++ [x]).length ((l ++ [x]).flatMap psC)) ∧ Below w.heap.size w w' := by
  obtain ⟨i0, hi, hz0, hz1, hz2⟩ := info_parts info_ps
  obtain ⟨ad, cap, rfl, hcap⟩ := hS.form
  have HR : Hid (RowAt w (.slice ad l.length cap) l.length (l.flatMap psC)) := hS
  clear hS
  have hb00 := below_alloc w (psO x)
  have hX0 := PsIn.new w x
  have hq0 : w.heap.size < (w.alloc (psO x)).heap.size := by simp
  have hs0 : w.heap.size ≤ (w.alloc (psO x)).heap.size := by simp
  have HO0 := own_empty (w.alloc (psO x)) 154 8
  have hb1 := below_alloc (w.alloc (psO x)) (.cells #[] 154)
  go_enter Tryz.func160, Tryz.ntmps160
  go_upto_region 1 with fail
  generalize w.alloc (psO x) = W at *
  have HB : Hid (Below w.heap.size w W) := hb00
  have HB1 : Hid (Below W.heap.size W (W.alloc (.cells #[] 154))) := hb1
  have HO' : Hid ((W.alloc (.cells #[] 154)).ownsRow W.heap.size 154 8 (.slice (some ⟨W.heap.size, 0, none⟩) 0 0) 0 []) := HO0
  have HR' : Hid (RowAt W (.slice ad l.length cap) l.length (l.flatMap psC)) := HR.out.later hb00
  have HX : Hid (PsIn W w.heap.size x) := hX0
  clear hX0 hb00 hb1 HO0 HR
  go_wp2_with fail
  go_loopw [5, 6] (fun v i wr => ∃ k : Nat, k ≤ l.length ∧ i = .int .i64 k ∧ wr.ownsRow W.heap.size 154 8 v (l.take k).length ((l.take k).flatMap psC) ∧ Below W.heap.size W wr) (fun _ i _ => l.length - (intOf i).toNat)
  case atStart => exact ⟨0, Nat.zero_le _, rfl, HO'.out, HB1.out⟩
  case round =>
    obtain ⟨k, hk, rfl, hown, hbr⟩ := hrel
    have hsz := hbr.size
    by_cases hlt : k < l.length
    · obtain ⟨b, off, cap', hv, _, hc⟩ := (HR'.out.later hbr).some' (by omega)
      cases hv
      have b1 : (0 : Int) ≤ (k : Int) := by omega
      have b2 : (k : Int) < (l.length : Int) := by omega
      have hn : (l.take k).length ≤ k := by simp; omega
      have HF : Hid (l.take (k + 1) = l.take k ++ [l[k]]) := List.take_succ_eq_append_getElem hlt
      obtain ⟨d0, d1, d2, d3, d4, d5, d6, d7⟩ := ps_cells hc k hlt
      clear hc
      have hq : True := trivial
      · generalize l[k] = y at *
        generalize l.take k = L at *
        go_wp2_with (at_builtin; refine wpList_append_lies _ rfl (.tmp 14) (.tmp 19) 62 rfl W.heap.size 154 i0 (.agg #[.int .i64 0, .int .i64 0, .int .i64 0, .int .i64 0, .int .i64 0, .int .i64 0, .int .i64 0, .string ByteArray.empty]) 8 72 Tryz.underlying62 hi hz0 hz1 hz2 rfl (by decide) _ _ _ rfl (hown.alloc _) ⟨wr.heap.size, 0, none⟩ 1 1 (psC y) rfl rfl (psC_new _ _ _) (psC_one y) (by decide) ?c3 ?c4 ?c5 _ rfl ?_)
        case c3 => unfold maxLen; omega
        case c4 => omega
        case c5 => simp; omega
        · intro g cap1 w1 hown' hgrow _ hlt'
          have B1 : Below W.heap.size W w1 := (hbr.alloc hsz _).grown hgrow (by simp; omega) (fun k' e => (hown.lt k' e).1)
          have hown2 : w1.ownsRow W.heap.size 154 8 (.slice (some ⟨g, 0, none⟩) (L.length + 1) cap1) (L ++ [y]).length ((L ++ [y]).flatMap psC) := by simpa using hown'
          clear hown' hgrow hown hbr d0 d1 d2 d3 d4 d5 d6 d7
          go_wp2_with fail
          go_roundw
          case rel => exact ⟨k + 1, by omega, by go_num, by rw [HF.out]; exact hown2, B1⟩
          case measure => simp [intOf]; omega
    · obtain rfl : k = l.length := by omega
      obtain ⟨d0, d1, d2, d3, d4, d5, d6, d7⟩ := HX.out.below hq0 hbr
      rw [List.take_length] at hown
      go_wp2_with (at_builtin; refine wpList_append_lies _ rfl (.tmp 21) (.tmp 23) 62 rfl W.heap.size 154 i0 (.agg #[.int .i64 0, .int .i64 0, .int .i64 0, .int .i64 0, .int .i64 0, .int .i64 0, .int .i64 0, .string ByteArray.empty]) 8 72 Tryz.underlying62 hi hz0 hz1 hz2 rfl (by decide) _ _ _ rfl (hown.alloc _) ⟨wr.heap.size, 0, none⟩ 1 1 (psC x) rfl rfl (psC_new _ _ _) (psC_one x) (by decide) ?c3 ?c4 ?c5 _ rfl ?_)
      case c3 => unfold maxLen; omega
      case c4 => omega
      case c5 => simp; omega
      · intro g cap1 w1 hown' hgrow _ hlt'
        have B1 : Below W.heap.size W w1 := (hbr.alloc hsz _).grown hgrow (by simp; omega) (fun k' e => (hown.lt k' e).1)
        have hown2 : Hid (w1.ownsRow W.heap.size 154 8 (.slice (some ⟨g, 0, none⟩) (l.length + 1) cap1) (l ++ [x]).length ((l ++ [x]).flatMap psC)) := by unfold Hid; simpa using hown'
        clear hown' hgrow hown hbr d0 d1 d2 d3 d4 d5 d6 d7
        go_wp2_with fail
        go_ret
        exact ⟨⟨_, rfl, own_mono' hown2.out hs0⟩, HB.out.trans (B1.mono HB.out.size)⟩

theorem drop_yes {α : Type} {l : List α} {m k : Nat} (h : k < l.length) (hm : m ≤ k) : (l.take (k + 1)).drop m = (l.take k).drop m ++ [l[k]] := by
  rw [List.take_succ_eq_append_getElem h, List.drop_append_of_le_length (by simp; omega)]
theorem drop_no {α : Type} {l : List α} {m k : Nat} (hm : k < m) : (l.take (k + 1)).drop m = (l.take k).drop m := by
  rw [List.drop_eq_nil_of_le (by simp; omega), List.drop_eq_nil_of_le (by simp; omega)]
theorem enC_new' (w : World) (x : Bx.En) (t : TypeId) : ∀ j u, (enC x)[j]? = some u → (w.alloc (.cells #[.int .i64 x.num, .string x.how] t)).cell? ((⟨w.heap.size, 0, none⟩ : Addr).add j) = some u := by
  intro j u hj
  match j, hj with
  | 0, hj => simp [enC] at hj; subst hj; simp [Addr.add, go_sem]
  | 1, hj => simp [enC] at hj; subst hj; simp [Addr.add, go_sem]
theorem enC_one' (x : Bx.En) : ∀ u ∈ enC x, u.oneCell' = true := by
  intro u hu; simp [enC] at hu; rcases hu with rfl | rfl <;> rfl
set_option maxHeartbeats 2000000 in
theorem pwithEnd_any (l : List Bx.En) (x : Bx.En) (sl : Value) (w : World) (hl : l.length ≤ 10000) (hS : RowAt w sl l.length (l.flatMap enC)) :
    Calls Tryz.prog 159 #[sl, .agg #[.int .i64 x.num, .string x.how]] w fun e w' => (∃ v, e = .returned v ∧ w'.ownsRow w.heap.size 95 2 v (Bx.push l x).length ((Bx.push l x).flatMap enC)) ∧ Below w.heap.size w w' := by
  obtain ⟨i0, hi, hz0, hz1, hz2⟩ := info_parts info_en
  obtain ⟨ad, cap, rfl, hcap⟩ := hS.form
  have HR : Hid (RowAt w (.slice ad l.length cap) l.length (l.flatMap enC)) := hS
  clear hS
  have hb00 := below_alloc w (.cells #[.int .i64 x.num, .string x.how] 95)
  have hX0 : (w.alloc (.cells #[.int .i64 x.num, .string x.how] 95)).cell? ⟨w.heap.size, 0, none⟩ = some (.int .i64 x.num) := by simp [go_sem]
  have hX1 : (w.alloc (.cells #[.int .i64 x.num, .string x.how] 95)).cell? ⟨w.heap.size, 1, none⟩ = some (.string x.how) := by simp [go_sem]
  have hq0 : w.heap.size < (w.alloc (.cells #[.int .i64 x.num, .string x.how] 95)).heap.size := by simp
  have hs0 : w.heap.size ≤ (w.alloc (.cells #[.int .i64 x.num, .string x.how] 95)).heap.size := by simp
  have HO0 := own_empty (w.alloc (.cells #[.int .i64 x.num, .string x.how] 95)) 95 2
  have hb1 := below_alloc (w.alloc (.cells #[.int .i64 x.num, .string x.how] 95)) (.cells #[] 95)
  go_enter Tryz.func159, Tryz.ntmps159
  go_upto_region 1 with fail
  generalize w.alloc (.cells #[.int .i64 x.num, .string x.how] 95) = W at *
  have HB : Hid (Below w.heap.size w W) := hb00
  have HB1 : Hid (Below W.heap.size W (W.alloc (.cells #[] 95))) := hb1
  have HO' : Hid ((W.alloc (.cells #[] 95)).ownsRow W.heap.size 95 2 (.slice (some ⟨W.heap.size, 0, none⟩) 0 0) 0 []) := HO0
  have HR' : Hid (RowAt W (.slice ad l.length cap) l.length (l.flatMap enC)) := HR.out.later hb00
  have HX0 : Hid (W.cell? ⟨w.heap.size, 0, none⟩ = some (.int .i64 x.num)) := hX0
  have HX1 : Hid (W.cell? ⟨w.heap.size, 1, none⟩ = some (.string x.how)) := hX1
  clear hX0 hX1 hb00 hb1 HO0 HR
  go_wp2_with fail
  go_loopw [5, 6] (fun v i wr => ∃ k : Nat, k ≤ l.length ∧ i = .int .i64 k ∧ wr.ownsRow W.heap.size 95 2 v ((l.take k).drop (l.length - 5)).length (((l.take k).drop (l.length - 5)).flatMap enC) ∧ Below W.heap.size W wr) (fun _ i _ => l.length - (intOf i).toNat)
  case atStart => exact ⟨0, Nat.zero_le _, rfl, by simpa using HO'.out, HB1.out⟩
  case round =>
    obtain ⟨k, hk, rfl, hown, hbr⟩ := hrel
    have hsz := hbr.size
    by_cases hlt : k < l.length
    · have b1 : (0 : Int) ≤ (k : Int) := by omega
      have b2 : (k : Int) < (l.length : Int) := by omega
      have hn : ((l.take k).drop (l.length - 5)).length ≤ k := by simp; omega
      by_cases he : (l.length : Int) - 6 < (k : Int)
      · have HF : Hid ((l.take (k + 1)).drop (l.length - 5) = (l.take k).drop (l.length - 5) ++ [l[k]]) := drop_yes hlt (by omega)
        obtain ⟨b, off, cap', hv, _, hc⟩ := (HR'.out.later hbr).some' (by omega)
        cases hv
        have d0 : wr.cell? ⟨b, off + k * 2, none⟩ = some (.int .i64 l[k].num) := RowAt.cell enC_len hc k hlt 0 (by decide)
        have d1 : wr.cell? ⟨b, off + k * 2 + 1, none⟩ = some (.string l[k].how) := RowAt.cell enC_len hc k hlt 1 (by decide)
        clear hc
        generalize l[k] = y at *
        generalize (l.take k).drop (l.length - 5) = L at *
        go_wp2_with (at_builtin; refine wpList_append_lies _ rfl (.tmp 19) (.tmp 24) 63 rfl W.heap.size 95 i0 (.agg #[.int .i64 0, .string ByteArray.empty]) 2 24 Tryz.underlying63 hi hz0 hz1 hz2 rfl (by decide) _ _ _ rfl (hown.alloc _) ⟨wr.heap.size, 0, none⟩ 1 1 (enC y) rfl rfl (enC_new' _ _ _) (enC_one' y) (by decide) ?c3 ?c4 ?c5 _ rfl ?_)
        case c3 => unfold maxLen; omega
        case c4 => omega
        case c5 => simp; omega
        · intro g cap1 w1 hown' hgrow _ hlt'
          have B1 : Below W.heap.size W w1 := (hbr.alloc hsz _).grown hgrow (by simp; omega) (fun k' e => (hown.lt k' e).1)
          have hown2 : w1.ownsRow W.heap.size 95 2 (.slice (some ⟨g, 0, none⟩) (L.length + 1) cap1) (L ++ [y]).length ((L ++ [y]).flatMap enC) := by simpa using hown'
          clear hown' hgrow hown hbr d0 d1
          go_wp2_with fail
          go_roundw
          case rel => exact ⟨k + 1, by omega, by go_num, by rw [HF.out]; exact hown2, B1⟩
          case measure => simp [intOf]; omega
      · have HF : Hid ((l.take (k + 1)).drop (l.length - 5) = (l.take k).drop (l.length - 5)) := drop_no (by omega)
        go_wp2_with fail
        go_roundw
        case rel => exact ⟨k + 1, by omega, by go_num, by rw [HF.out]; exact hown, hbr⟩
        case measure => simp [intOf]; omega
    · obtain rfl : k = l.length := by omega
      have d0 : wr.cell? ⟨w.heap.size, 0, none⟩ = some (.int .i64 x.num) := (hbr.cell (p := ⟨w.heap.size, 0, none⟩) hq0).trans HX0.out
      have d1 : wr.cell? ⟨w.heap.size, 1, none⟩ = some (.string x.how) := (hbr.cell (p := ⟨w.heap.size, 1, none⟩) hq0).trans HX1.out
      rw [List.take_length] at hown
      have HL : Hid (Bx.push l x = l.drop (l.length - 5) ++ [x]) := rfl
      have hn : (l.drop (l.length - 5)).length ≤ 10000 := by simp; omega
      generalize l.drop (l.length - 5) = L at *
      go_wp2_with (at_builtin; refine wpList_append_lies _ rfl (.tmp 26) (.tmp 28) 63 rfl W.heap.size 95 i0 (.agg #[.int .i64 0, .string ByteArray.empty]) 2 24 Tryz.underlying63 hi hz0 hz1 hz2 rfl (by decide) _ _ _ rfl (hown.alloc _) ⟨wr.heap.size, 0, none⟩ 1 1 (enC x) rfl rfl (enC_new' _ _ _) (enC_one' x) (by decide) ?c3 ?c4 ?c5 _ rfl ?_)
      case c3 => unfold maxLen; omega
      case c4 => omega
      case c5 => simp; omega
      · intro g cap1 w1 hown' hgrow _ hlt'
        have B1 : Below W.heap.size W w1 := (hbr.alloc hsz _).grown hgrow (by simp; omega) (fun k' e => (hown.lt k' e).1)
        have hown2 : Hid (w1.ownsRow W.heap.size 95 2 (.slice (some ⟨g, 0, none⟩) (L.length + 1) cap1) (Bx.push l x).length ((Bx.push l x).flatMap enC)) := by unfold Hid; rw [HL.out]; simpa using hown'
        clear hown' hgrow hown hbr d0 d1
        go_wp2_with fail
        go_ret
        exact ⟨⟨_, rfl, own_mono' hown2.out hs0⟩, HB.out.trans (B1.mono HB.out.size)⟩
end Go.Proofs.YtdajolpoiffimaaGreatDoor

namespace Go.Proofs.YtdajolpoiffimaaGreatDoor
open Go.RowKit

set_option maxHeartbeats 1000000 in
theorem partHolds_any (A B S v : Int) (w : World) (v1 : 0 ≤ v) (v2 : v ≤ 60) (a1 : 0 ≤ A) (a2 : A ≤ 99) (s1 : 1 ≤ S) (s2 : S ≤ 99) :
    Calls Tryz.prog 211 #[.agg #[.int .i64 A, .int .i64 B, .int .i64 S], .int .i64 v] w fun e w' => e = .returned (.bool (Txt.inB A B S v)) ∧ Below w.heap.size w w' := by
  by_cases q1 : A ≤ v
  rotate_left
  · have e : Hid (Txt.inB A B S v = false) := Txt.inB_no (by omega)
    go_enter Tryz.func211, Tryz.ntmps211
    go_wp2_with fail
    go_ret
    exact ⟨ret_bool' e.out.symm, below_alloc w _⟩
  by_cases q2 : v ≤ B
  rotate_left
  · have e : Hid (Txt.inB A B S v = false) := Txt.inB_no (by omega)
    go_enter Tryz.func211, Tryz.ntmps211
    go_wp2_with fail
    go_ret
    exact ⟨ret_bool' e.out.symm, below_alloc w _⟩
  have e : Hid (((v - A) % S == 0) = Txt.inB A B S v) := by
    unfold Hid
    cases q3 : ((v - A) % S == 0)
    · have q4 : ¬ (v - A) % S = 0 := by simpa using q3
      exact (Txt.inB_no (Or.inr (Or.inr (Or.inr q4)))).symm
    · have q4 : (v - A) % S = 0 := by simpa using q3
      exact (Txt.inB_yes q1 q2 (by omega) q4).symm
  have e' : Hid (((v - A).tmod S == 0) = Txt.inB A B S v) := by unfold Hid; rw [Int.tmod_eq_emod_of_nonneg (by omega)]; exact e.out
  go_enter Tryz.func211, Tryz.ntmps211
  go_wp2_with fail
  go_ret
  exact ⟨by first | exact ret_bool' e.out | exact ret_bool' e'.out, below_alloc w _⟩
end Go.Proofs.YtdajolpoiffimaaGreatDoor

namespace Go.Proofs.YtdajolpoiffimaaGreatDoor
open Go.RowKit
open Txt (NoSep)

set_option maxHeartbeats 400000 in
theorem isDigit_any (b : Int) (w : World) :
    Calls Tryz.prog 224 #[.int .u8 b] w fun e w' => e = .returned (.bool (Txt.dg b)) ∧ w' = w := by
  by_cases h1 : 48 ≤ b
  · by_cases h2 : b ≤ 57
    · have e : Hid (Txt.dg b = true) := Txt.dg_yes h1 h2
      go_enter Tryz.func224, Tryz.ntmps224
      go_wp2_with fail
      go_ret
      exact ⟨ret_bool' e.out.symm, rfl⟩
    · have e : Hid (Txt.dg b = false) := Txt.dg_no (by omega)
      go_enter Tryz.func224, Tryz.ntmps224
      go_wp2_with fail
      go_ret
      exact ⟨ret_bool' e.out.symm, rfl⟩
  · have e : Hid (Txt.dg b = false) := Txt.dg_no (by omega)
    go_enter Tryz.func224, Tryz.ntmps224
    go_wp2_with fail
    go_ret
    exact ⟨ret_bool' e.out.symm, rfl⟩

set_option maxHeartbeats 400000 in
theorem isDigits_any (s : ByteArray) (w : World) (hs : s.size ≤ 300) :
    Calls Tryz.prog 222 #[.string s] w fun e w' => e = .returned (.bool (Txt.digs s)) ∧ w' = w := by
  go_enter Tryz.func222, Tryz.ntmps222
  go_wp2_with fail
  go_loop [3] (fun i => ∃ k : Nat, k ≤ s.size ∧ i = .int .i64 k ∧ ∀ j (hj : j < s.size), j < k → Txt.dg (s[j].toNat) = true) (fun i => s.size - (intOf i).toNat)
  case atStart => exact ⟨0, Nat.zero_le _, rfl, fun j _ h => by omega⟩
  case round =>
    obtain ⟨k, hk, rfl, hall⟩ := hrel
    have HA : Hid (∀ j (hj : j < s.size), j < k → Txt.dg (s[j].toNat) = true) := hall
    clear hall
    by_cases hlt : k < s.size
    · cases hd : Txt.dg (s[k].toNat)
      · have e : Hid (Txt.digs s = false) := Txt.digs_no hlt hd
        go_wp2_with (go_at_call 224; refine (isDigit_any _ _).mono ?_; rintro e w' ⟨rfl, rfl⟩)
        go_ret
        exact ⟨ret_bool' e.out.symm, rfl⟩
      · have HD : Hid (Txt.dg (s[k].toNat) = true) := hd
        go_wp2_with (go_at_call 224; refine (isDigit_any _ _).mono ?_; rintro e w' ⟨rfl, rfl⟩)
        go_round
        case rel =>
          refine ⟨k + 1, by omega, by go_num, fun j hj h => ?_⟩
          by_cases q : j = k
          · subst q; exact HD.out
          · exact HA.out j hj (by omega)
        case measure => simp [intOf]; omega
    · have e : Hid (Txt.digs s = true) := Txt.digs_yes (fun j hj => HA.out j hj (by omega))
      go_wp2_with fail
      go_ret
      exact ⟨ret_bool' e.out.symm, rfl⟩
end Go.Proofs.YtdajolpoiffimaaGreatDoor

namespace Go.Proofs.YtdajolpoiffimaaGreatDoor
open Go.RowKit
open Txt (NoSep)

set_option maxHeartbeats 400000 in
theorem cut_any (s : ByteArray) (c : Int) (w : World) (hs : s.size ≤ 300) :
    Calls Tryz.prog 220 #[.string s, .int .u8 c] w fun e w' => e = .returned (.tuple #[.string (Txt.cut1 c s), .string (Txt.cut2 c s), .bool (Txt.cut3 c s)]) ∧ ∃ n, w' = w.drewN n := by
  go_enter Tryz.func220, Tryz.ntmps220
  go_wp2_with fail
  go_loop [7] (fun i => ∃ k : Nat, k ≤ s.size ∧ i = .int .i64 k ∧ NoSep c s 0 k) (fun i => s.size - (intOf i).toNat)
  case atStart => exact ⟨0, Nat.zero_le _, rfl, NoSep.nil _ _ _⟩
  case round =>
    obtain ⟨k, hk, rfl, hall⟩ := hrel
    have HA : Hid (NoSep c s 0 k) := hall
    clear hall
    by_cases hlt : k < s.size
    · cases he : ((s[k].toNat : Int) == c)
      · have HN : Hid (NoSep c s 0 (k + 1)) := HA.out.snoc hlt he
        go_wp2_with fail
        go_round
        case rel => exact ⟨k + 1, by omega, by go_num, HN.out⟩
        case measure => simp [intOf]; omega
      · have e : Hid (Txt.cut1 c s = s.extract 0 k ∧ Txt.cut2 c s = s.extract (k + 1) s.size ∧ Txt.cut3 c s = true) := Txt.cut_yes hlt he HA.out
        have b1 : (0 : Int) ≤ (k : Int) := by omega
        have b2 : (k : Int) ≤ (s.size : Int) := by omega
        have b3 : (k : Int) + 1 ≤ (s.size : Int) := by omega
        go_wp2_with fail
        go_quiet (fail)
        go_wp2_with fail
        go_ret3
        exact ⟨ret_three e.out, _, rfl⟩
    · have e : Hid (Txt.cut1 c s = s ∧ Txt.cut2 c s = ByteArray.empty ∧ Txt.cut3 c s = false) := Txt.cut_no ((show k = s.size by omega) ▸ HA.out)
      go_wp2_with fail
      go_ret3
      exact ⟨ret_three e.out, 0, rfl⟩

set_option maxHeartbeats 400000 in
theorem readNumber_any (s : ByteArray) (w : World) (hs : s.size ≤ 300) :
    Calls Tryz.prog 223 #[.string s] w fun e w' => e = .returned (.tuple #[.int .i64 (Txt.numV s), .bool (Txt.numB s)]) ∧ w' = w := by
  by_cases h1 : s.size < 1
  · have e : Hid (0 = Txt.numV s ∧ false = Txt.numB s) := by have := Txt.num_no (Txt.val_no (s := s) (by omega)); exact ⟨this.1.symm, this.2.symm⟩
    go_enter Tryz.func223, Tryz.ntmps223
    go_wp2_with fail
    go_ret2
    exact ⟨ret_numok e.out, rfl⟩
  by_cases h2 : 2 < s.size
  · have e : Hid (0 = Txt.numV s ∧ false = Txt.numB s) := by have := Txt.num_no (Txt.val_no (s := s) (by omega)); exact ⟨this.1.symm, this.2.symm⟩
    go_enter Tryz.func223, Tryz.ntmps223
    go_wp2_with fail
    go_ret2
    exact ⟨ret_numok e.out, rfl⟩
  cases hd : Txt.digs s
  · have e : Hid (0 = Txt.numV s ∧ false = Txt.numB s) := by have := Txt.num_no (Txt.val_no (s := s) (Or.inr (Or.inr hd))); exact ⟨this.1.symm, this.2.symm⟩
    go_enter Tryz.func223, Tryz.ntmps223
    go_wp2_with (go_at_call 222; refine (isDigits_any _ _ hs).mono ?_; rintro e w' ⟨rfl, rfl⟩)
    go_ret2
    exact ⟨ret_numok e.out, rfl⟩
  · have e : Hid (Txt.pv s s.size = Txt.numV s ∧ true = Txt.numB s) := by
      have v := Txt.val_yes (s := s) (by omega) (by omega) hd
      have := Txt.num_yes (Txt.val_nn (s := s) (by omega) (by omega) hd)
      exact ⟨by rw [this.1, v], this.2.symm⟩
    have HD : Hid (Txt.digs s = true) := hd
    go_enter Tryz.func223, Tryz.ntmps223
    go_wp2_with (go_at_call 222; refine (isDigits_any _ _ hs).mono ?_; rintro e w' ⟨rfl, rfl⟩)
    clear hd
    go_loop [4, 5] (fun n i => ∃ k : Nat, k ≤ s.size ∧ i = .int .i64 k ∧ n = .int .i64 (Txt.pv s k)) (fun _ i => s.size - (intOf i).toNat)
    case atStart => exact ⟨0, Nat.zero_le _, rfl, by rw [Txt.pv_0]⟩
    case round =>
      obtain ⟨k, hk, rfl, rfl⟩ := hrel
      have pb := Txt.pv_bd s k hk (by omega)
      by_cases hlt : k < s.size
      · have d := Txt.dg_of (Txt.digs_at HD.out k hlt)
        have PS : Hid (Txt.pv s (k + 1) = Txt.pv s k * 10 + ((s[k].toNat : Int) - 48)) := Txt.pv_succ s k hlt
        obtain ⟨d1, d2⟩ := d
        go_wp2_with fail
        go_round
        case rel => exact ⟨k + 1, by omega, by go_num, by rw [PS.out]⟩
        case measure => simp [intOf]; omega
      · obtain rfl : k = s.size := by omega
        go_wp2_with fail
        go_ret2
        exact ⟨ret_numok e.out, rfl⟩
end Go.Proofs.YtdajolpoiffimaaGreatDoor

namespace Go.Proofs.YtdajolpoiffimaaGreatDoor
open Go.RowKit

set_option maxHeartbeats 400000 in
theorem isWordByte_any (b : Int) (w : World) :
    Calls Tryz.prog 208 #[.int .u8 b] w fun e w' => e = .returned (.bool (Txt.wb b)) ∧ w' = w := by
  by_cases h1 : 97 ≤ b
  · by_cases h2 : b ≤ 122
    · have e : Hid (Txt.wb b = true) := Txt.wb_yes (by omega)
      go_enter Tryz.func208, Tryz.ntmps208
      go_wp2_with fail
      go_ret
      exact ⟨ret_bool' e.out.symm, rfl⟩
    · have h3 : ¬ b ≤ 90 := by omega
      have h4 : 65 ≤ b := by omega
      have e : Hid (Txt.dg b = Txt.wb b) := Txt.wb_dg (by omega) (by omega)
      go_enter Tryz.func208, Tryz.ntmps208
      go_wp2_with (go_at_call 224; refine (isDigit_any _ _).mono ?_; rintro e w' ⟨rfl, rfl⟩)
      go_ret
      exact ⟨ret_bool' e.out, rfl⟩
  · by_cases h3 : 65 ≤ b
    · by_cases h4 : b ≤ 90
      · have e : Hid (Txt.wb b = true) := Txt.wb_yes (by omega)
        go_enter Tryz.func208, Tryz.ntmps208
        go_wp2_with fail
        go_ret
        exact ⟨ret_bool' e.out.symm, rfl⟩
      · have e : Hid (Txt.dg b = Txt.wb b) := Txt.wb_dg (by omega) (by omega)
        go_enter Tryz.func208, Tryz.ntmps208
        go_wp2_with (go_at_call 224; refine (isDigit_any _ _).mono ?_; rintro e w' ⟨rfl, rfl⟩)
        go_ret
        exact ⟨ret_bool' e.out, rfl⟩
    · have e : Hid (Txt.dg b = Txt.wb b) := Txt.wb_dg (by omega) (by omega)
      go_enter Tryz.func208, Tryz.ntmps208
      go_wp2_with (go_at_call 224; refine (isDigit_any _ _).mono ?_; rintro e w' ⟨rfl, rfl⟩)
      go_ret
      exact ⟨ret_bool' e.out, rfl⟩

/-- A step, as a value; what readStep answers. -/
abbrev stepV (b : Bool) (x : ByteArray) : Value := .agg #[.bool b, .string x]
def StepR (s : ByteArray) (e : Ending) : Prop :=
  (Txt.stepB s = true ∧ e = .returned (.tuple #[stepV (sayB s) (s.extract 1 s.size), .bool true])) ∨ (Txt.stepB s = false ∧ e = .returned (.tuple #[stepV false ByteArray.empty, .bool false]))
theorem StepR.no {s : ByteArray} (h : Txt.stepB s = false) : StepR s (.returned (.tuple #[stepV false ByteArray.empty, .bool false])) := Or.inr ⟨h, rfl⟩
theorem StepR.yes {s : ByteArray} {b : Bool} (h : Txt.stepB s = true) (hb : b = sayB s) : StepR s (.returned (.tuple #[stepV b (s.extract 1 s.size), .bool true])) := by subst hb; exact Or.inl ⟨h, rfl⟩

set_option maxHeartbeats 1000000 in
theorem readStep_any (s : ByteArray) (w : World) (hs : s.size ≤ 300) :
    Calls Tryz.prog 190 #[.string s] w fun e w' => StepR s e ∧ Below w.heap.size w w' := by
  by_cases h2 : s.size < 2
  · have e : Hid (Txt.stepB s = false) := Txt.stepB_no (fun h => by have := h.1; omega)
    go_enter Tryz.func190, Tryz.ntmps190
    go_wp2_with fail
    exact bodyPost_ret (v := .tuple #[stepV false ByteArray.empty, .bool false]) (by simp [results, Tryz.results190, go_sem]; rfl) rfl ⟨StepR.no e.out, by repeat (first | exact below_alloc _ _ | refine Below.setCell ?_ (by simp) _)⟩
  by_cases h9 : 9 < s.size
  · have e : Hid (Txt.stepB s = false) := Txt.stepB_no (fun h => by have := h.2.1; omega)
    go_enter Tryz.func190, Tryz.ntmps190
    go_wp2_with fail
    exact bodyPost_ret (v := .tuple #[stepV false ByteArray.empty, .bool false]) (by simp [results, Tryz.results190, go_sem]; rfl) rfl ⟨StepR.no e.out, by repeat (first | exact below_alloc _ _ | refine Below.setCell ?_ (by simp) _)⟩
  have h0 : 0 < s.size := by omega
  by_cases hf : (s[0].toNat : Int) = 62 ∨ (s[0].toNat : Int) = 60
  rotate_left
  · have e : Hid (Txt.stepB s = false) := Txt.stepB_no (fun ⟨_, _, _, h, _⟩ => hf h)
    have f1 : ((s[0].toNat : Int) != 62) = true := by simp; omega
    have f2 : ((s[0].toNat : Int) != 60) = true := by simp; omega
    clear hf
    go_enter Tryz.func190, Tryz.ntmps190
    go_wp2_with fail
    exact bodyPost_ret (v := .tuple #[stepV false ByteArray.empty, .bool false]) (by simp [results, Tryz.results190, go_sem]; rfl) rfl ⟨StepR.no e.out, by repeat (first | exact below_alloc _ _ | refine Below.setCell ?_ (by simp) _)⟩
  have HF : Hid ((s[0].toNat : Int) = 62 ∨ (s[0].toNat : Int) = 60) := hf
  have HS : Hid (((s[0].toNat : Int) == 62) = sayB s) := sayB_at h0 hf
  have HE : Hid (((s[0].toNat : Int) != 62) = false ∨ (((s[0].toNat : Int) != 62) = true ∧ ((s[0].toNat : Int) != 60) = false)) := by
    unfold Hid; rcases hf with h | h
    · left; simp [h]
    · right; constructor <;> simp [h]
  clear hf
  rcases HE.out with f1 | ⟨f1, f2⟩
  all_goals
    clear HE
    go_enter Tryz.func190, Tryz.ntmps190
    go_wp2_with fail
    go_loop [4] (fun i => ∃ k : Nat, 1 ≤ k ∧ k ≤ s.size ∧ i = .int .i64 k ∧ ∀ j (hj : j < s.size), 1 ≤ j → j < k → Txt.wb (s[j].toNat) = true) (fun i => s.size - (intOf i).toNat)
    case atStart => exact ⟨1, Nat.le_refl _, by omega, rfl, fun j _ h h' => by omega⟩
    case round =>
      obtain ⟨k, hk1, hk, rfl, hall⟩ := hrel
      have HA : Hid (∀ j (hj : j < s.size), 1 ≤ j → j < k → Txt.wb (s[j].toNat) = true) := hall
      clear hall
      by_cases hlt : k < s.size
      · cases hd : Txt.wb (s[k].toNat)
        · have e : Hid (Txt.stepB s = false) := step_bad hlt hk1 hd
          go_wp2_with (go_at_call 208; refine (isWordByte_any _ _).mono ?_; rintro e w' ⟨rfl, rfl⟩)
          exact bodyPost_ret (v := .tuple #[stepV false ByteArray.empty, .bool false]) (by simp [results, Tryz.results190, go_sem]; rfl) rfl ⟨StepR.no e.out, by repeat (first | exact below_alloc _ _ | refine Below.setCell ?_ (by simp) _)⟩
        · have HD : Hid (Txt.wb (s[k].toNat) = true) := hd
          go_wp2_with (go_at_call 208; refine (isWordByte_any _ _).mono ?_; rintro e w' ⟨rfl, rfl⟩)
          go_round
          case rel =>
            refine ⟨k + 1, by omega, by omega, by go_num, fun j hj h1 h => ?_⟩
            by_cases q : j = k
            · subst q; exact HD.out
            · exact HA.out j hj h1 (by omega)
          case measure => simp [intOf]; omega
      · have e : Hid (Txt.stepB s = true) := step_last (by omega) (by omega) (by omega) h0 HF.out HA.out
        go_wp2_with fail
        go_region
        go_wp2_with fail
        exact bodyPost_ret (v := .tuple #[stepV ((s[0].toNat : Int) == 62) (s.extract 1 s.size), .bool true]) (by simp [results, Tryz.results190, go_sem]) rfl ⟨StepR.yes e.out HS.out, (below_alloc _ _).drew⟩
end Go.Proofs.YtdajolpoiffimaaGreatDoor

namespace Go.Proofs.YtdajolpoiffimaaGreatDoor
open Go.RowKit

theorem first_ways {x : Int} (h : x = 120 ∨ x = 111) : (x != 120) = false ∨ ((x != 120) = true ∧ (x != 111) = false) := by
  rcases h with rfl | rfl
  · left; rfl
  · right; exact ⟨rfl, rfl⟩
theorem second_ways {x : Int} (h : x = 97 ∨ x = 108 ∨ x = 110) : (x != 97) = false ∨ ((x != 97) = true ∧ (x != 108) = false) ∨ ((x != 97) = true ∧ (x != 108) = true ∧ (x != 110) = false) := by
  rcases h with rfl | rfl | rfl
  · left; rfl
  · right; left; exact ⟨rfl, rfl⟩
  · right; right; exact ⟨rfl, rfl, rfl⟩

/-- The options as a value; what readOptions answers. -/
abbrev optV (x : Bool) (c k : Int) : Value := .agg #[.bool x, .int .u8 c, .int .i64 k]
def obt (s : ByteArray) (i : Nat) : Int := ((s.data.toList[i]?).map (fun b => (b.toNat : Int))).getD 0
theorem obt_at {s : ByteArray} {i : Nat} (h : i < s.size) : (s[i].toNat : Int) = obt s i := by
  have hl : i < s.data.toList.length := by simpa using h
  unfold obt
  rw [List.getElem?_eq_getElem hl]; rfl
def OptR (s : ByteArray) (e : Ending) : Prop :=
  (Txt.optB s = true ∧ e = .returned (.tuple #[optV (obt s 0 == 120) (obt s 1) (obt s 2 - 48), .bool true])) ∨ (Txt.optB s = false ∧ e = .returned (.tuple #[optV false 0 0, .bool false]))
theorem OptR.no {s : ByteArray} (h : Txt.optB s = false) : OptR s (.returned (.tuple #[optV false 0 0, .bool false])) := Or.inr ⟨h, rfl⟩
theorem OptR.yes {s : ByteArray} {b : Bool} {c k : Int} (h : Txt.optB s = true) (h0 : b = (obt s 0 == 120)) (h1 : c = obt s 1) (h2 : k = obt s 2 - 48) : OptR s (.returned (.tuple #[optV b c k, .bool true])) := by subst h0 h1 h2; exact Or.inl ⟨h, rfl⟩

set_option maxHeartbeats 2000000 in
theorem readOptions_any (s : ByteArray) (w : World) (_hs : s.size ≤ 300) :
    Calls Tryz.prog 189 #[.string s] w fun e w' => OptR s e ∧ Below w.heap.size w w' := by
  by_cases z : s.size = 3
  rotate_left
  · have e : Hid (Txt.optB s = false) := Txt.optB_no (fun h => z h.1)
    have z' : ((s.size : Int) != 3) = true := by simp; omega
    clear z
    go_enter Tryz.func189, Tryz.ntmps189
    go_wp2_with fail
    exact bodyPost_ret (v := .tuple #[optV false 0 0, .bool false]) (by simp [results, Tryz.results189, go_sem]) rfl ⟨OptR.no e.out, below_alloc _ _⟩
  have z' : ((s.size : Int) != 3) = false := by simp; omega
  have i0 : 0 < s.size := by omega
  have i1 : 1 < s.size := by omega
  have i2 : 2 < s.size := by omega
  have Z : Hid (s.size = 3) := z
  clear z
  by_cases hf : (s[0].toNat : Int) = 120 ∨ (s[0].toNat : Int) = 111
  rotate_left
  · have e : Hid (Txt.optB s = false) := Txt.optB_no (fun ⟨_, h, _⟩ => hf h)
    have f1 : ((s[0].toNat : Int) != 120) = true := by simp; omega
    have f2 : ((s[0].toNat : Int) != 111) = true := by simp; omega
    clear hf
    go_enter Tryz.func189, Tryz.ntmps189
    go_wp2_with fail
    exact bodyPost_ret (v := .tuple #[optV false 0 0, .bool false]) (by simp [results, Tryz.results189, go_sem]) rfl ⟨OptR.no e.out, below_alloc _ _⟩
  have HF : Hid ((s[0].toNat : Int) = 120 ∨ (s[0].toNat : Int) = 111) := hf
  have W1 := first_ways hf
  clear hf
  by_cases hg : (s[1].toNat : Int) = 97 ∨ (s[1].toNat : Int) = 108 ∨ (s[1].toNat : Int) = 110
  rotate_left
  · have e : Hid (Txt.optB s = false) := Txt.optB_no (fun ⟨_, _, h, _⟩ => hg h)
    have g1 : ((s[1].toNat : Int) != 97) = true := by simp; omega
    have g2 : ((s[1].toNat : Int) != 108) = true := by simp; omega
    have g3 : ((s[1].toNat : Int) != 110) = true := by simp; omega
    clear hg
    rcases W1 with f1 | ⟨f1, f2⟩
    all_goals
      go_enter Tryz.func189, Tryz.ntmps189
      go_wp2_with fail
      exact bodyPost_ret (v := .tuple #[optV false 0 0, .bool false]) (by simp [results, Tryz.results189, go_sem]) rfl ⟨OptR.no e.out, below_alloc _ _⟩
  have HG : Hid ((s[1].toNat : Int) = 97 ∨ (s[1].toNat : Int) = 108 ∨ (s[1].toNat : Int) = 110) := hg
  have W2 := second_ways hg
  clear hg
  have W3 : Hid ((s[2].toNat : Int) < 49 ∧ Txt.optB s = false ∨ (49 ≤ (s[2].toNat : Int) ∧ (s[2].toNat : Int) ≤ 53 ∧ Txt.optB s = true) ∨ (49 ≤ (s[2].toNat : Int) ∧ 53 < (s[2].toNat : Int) ∧ Txt.optB s = false)) := by
    unfold Hid
    by_cases a : (s[2].toNat : Int) < 49
    · exact Or.inl ⟨a, Txt.optB_no (fun ⟨_, _, _, h, _⟩ => by omega)⟩
    · by_cases b : (s[2].toNat : Int) ≤ 53
      · exact Or.inr (Or.inl ⟨by omega, b, Txt.optB_yes ⟨Z.out, HF.out, HG.out, by omega, b⟩⟩)
      · exact Or.inr (Or.inr ⟨by omega, by omega, Txt.optB_no (fun ⟨_, _, _, _, h⟩ => by omega)⟩)
  clear HF HG Z
  have E0 : Hid (((s[0].toNat : Int) == 120) = (obt s 0 == 120)) := by unfold Hid; rw [obt_at i0]
  have E1 : Hid ((s[1].toNat : Int) = obt s 1) := obt_at i1
  have E2 : Hid ((s[2].toNat : Int) - 48 = obt s 2 - 48) := by unfold Hid; rw [obt_at i2]
  rcases W3.out with ⟨a, e0⟩ | ⟨a, b, e0⟩ | ⟨a, b, e0⟩
  · have e := (show Hid _ from e0)
    clear e0 W3
    rcases W1 with f1 | ⟨f1, f2⟩
    all_goals
      rcases W2 with g1 | ⟨g1, g2⟩ | ⟨g1, g2, g3⟩
      all_goals
        go_enter Tryz.func189, Tryz.ntmps189
        go_wp2_with fail
        exact bodyPost_ret (v := .tuple #[optV false 0 0, .bool false]) (by simp [results, Tryz.results189, go_sem]) rfl ⟨OptR.no e.out, below_alloc _ _⟩
  · have e := (show Hid _ from e0)
    clear e0 W3
    rcases W1 with f1 | ⟨f1, f2⟩
    all_goals
      rcases W2 with g1 | ⟨g1, g2⟩ | ⟨g1, g2, g3⟩
      all_goals
        go_enter Tryz.func189, Tryz.ntmps189
        go_wp2_with fail
        go_region
        go_wp2_with fail
        exact bodyPost_ret (v := .tuple #[optV ((s[0].toNat : Int) == 120) (s[1].toNat : Int) ((s[2].toNat : Int) - 48), .bool true]) (by simp [results, Tryz.results189, go_sem]) rfl ⟨OptR.yes e.out E0.out E1.out E2.out, (below_alloc _ _).drew⟩
  · have e := (show Hid _ from e0)
    clear e0 W3
    rcases W1 with f1 | ⟨f1, f2⟩
    all_goals
      rcases W2 with g1 | ⟨g1, g2⟩ | ⟨g1, g2, g3⟩
      all_goals
        go_enter Tryz.func189, Tryz.ntmps189
        go_wp2_with fail
        exact bodyPost_ret (v := .tuple #[optV false 0 0, .bool false]) (by simp [results, Tryz.results189, go_sem]) rfl ⟨OptR.no e.out, below_alloc _ _⟩
end Go.Proofs.YtdajolpoiffimaaGreatDoor

namespace Go.Proofs.YtdajolpoiffimaaGreatDoor
open Go.RowKit

/-- A part, as a value. -/
abbrev partV (a b t : Int) : Value := .agg #[.int .i64 a, .int .i64 b, .int .i64 t]
/-- What readValues reads of a text without its step. -/
def rvA (l : Int) (s : ByteArray) : Int := if Txt.star s then l else Txt.val (Txt.cut1 45 s)
def rvB (g : Int) (s : ByteArray) : Int := if Txt.star s then g else if Txt.cut3 45 s then Txt.val (Txt.cut2 45 s) else Txt.val (Txt.cut1 45 s)
def rvK (l g : Int) (s : ByteArray) : Bool := decide (l ≤ rvA l s ∧ rvA l s ≤ rvB g s ∧ rvB g s ≤ g)
/-- What readValues answers. -/
def PartR (k : Bool) (a b t : Int) (e : Ending) : Prop := (k = true ∧ e = .returned (.tuple #[partV a b t, .bool true])) ∨ (k = false ∧ e = .returned (.tuple #[partV 0 0 0, .bool false]))
theorem partR_yes {k : Bool} {a b t a' b' t' : Int} (h : k = true) (ha : a = a') (hb : b = b') (ht : t = t') : PartR k a b t (.returned (.tuple #[partV a' b' t', .bool true])) := by
  subst ha hb ht; exact Or.inl ⟨h, rfl⟩
theorem partR_no {k : Bool} {a b t : Int} (h : k = false) : PartR k a b t (.returned (.tuple #[partV 0 0 0, .bool false])) := Or.inr ⟨h, rfl⟩
theorem num_ok {s : ByteArray} (h : 0 ≤ Txt.val s) : Txt.numV s = Txt.val s ∧ Txt.numB s = true := Txt.num_yes h
theorem num_bad {s : ByteArray} (h : Txt.val s < 0) : Txt.numV s = 0 ∧ Txt.numB s = false := Txt.num_no (by have := Txt.val_bd s; omega)

set_option maxHeartbeats 1000000 in
theorem rv_star (s : ByteArray) (l g : Int) (w : World) (_hs : s.size ≤ 300) (l1 : 0 ≤ l) (l2 : l ≤ 1) (g1 : 6 ≤ g) (g2 : g ≤ 59) (h1 : Txt.star s = true) :
    Calls Tryz.prog 221 #[.string s, .int .i64 l, .int .i64 g] w fun e w' => PartR (rvK l g s) (rvA l s) (rvB g s) 1 e ∧ Below w.heap.size w w' := by
  have hst : (s.toList == [42]) = true := h1
  have e : Hid (rvK l g s = true ∧ rvA l s = l ∧ rvB g s = g) := by
    have a : rvA l s = l := by simp [rvA, h1]
    have b : rvB g s = g := by simp [rvB, h1]
    exact ⟨decide_eq_true (by rw [a, b]; omega), a, b⟩
  clear h1
  go_enter Tryz.func221, Tryz.ntmps221
  go_wp2_with fail
  exact bodyPost_ret (v := .tuple #[partV l g 1, .bool true]) (by simp [results, Tryz.results221, go_sem]) rfl ⟨partR_yes e.out.1 e.out.2.1 e.out.2.2 rfl, by repeat (first | exact Below.refl _ _ | refine below_drewN ?_ _ | refine Below.setCell ?_ (by simp) _ | refine Below.alloc ?_ (by simp) _)⟩

set_option maxHeartbeats 1000000 in
theorem rv_c (s : ByteArray) (l g : Int) (w : World) (hs : s.size ≤ 300) (l1 : 0 ≤ l) (l2 : l ≤ 1) (_g1 : 6 ≤ g) (_g2 : g ≤ 59) (h1 : Txt.star s = false) (h3 : Txt.cut3 45 s = false) :
    Calls Tryz.prog 221 #[.string s, .int .i64 l, .int .i64 g] w fun e w' => PartR (rvK l g s) (rvA l s) (rvB g s) 1 e ∧ Below w.heap.size w w' := by
  have hst : (s.toList == [42]) = false := h1
  have a : Hid (rvA l s = Txt.val (Txt.cut1 45 s)) := by unfold Hid; simp [rvA, h1]
  have b : Hid (rvB g s = Txt.val (Txt.cut1 45 s)) := by unfold Hid; simp [rvB, h1, h3]
  have K : Hid (∀ r : Bool, r = decide (l ≤ Txt.val (Txt.cut1 45 s) ∧ Txt.val (Txt.cut1 45 s) ≤ Txt.val (Txt.cut1 45 s) ∧ Txt.val (Txt.cut1 45 s) ≤ g) → rvK l g s = r) := fun r h => by rw [h, rvK, a.out, b.out]
  have s1 : Hid ((Txt.cut1 45 s).size ≤ 300) := Nat.le_trans (Txt.cut1_size _ _) hs
  have s2 : Hid ((Txt.cut2 45 s).size ≤ 300) := Nat.le_trans (Txt.cut2_size _ _) hs
  have bA := Txt.val_bd (Txt.cut1 45 s)
  have bB := Txt.val_bd (Txt.cut1 45 s)
  clear h1
  go_enter Tryz.func221, Tryz.ntmps221
  go_wp2_with fail
  refine (cut_any _ _ _ hs).mono ?_
  rintro e w' ⟨rfl, n1, rfl⟩
  go_wp2_with fail
  refine (readNumber_any _ _ s1.out).mono ?_
  rintro e w' ⟨rfl, rfl⟩
  by_cases q1 : Txt.val (Txt.cut1 45 s) < 0
  · obtain ⟨r1, r2⟩ := num_bad q1
    go_wp2_with fail
    exact bodyPost_ret (v := .tuple #[partV 0 0 0, .bool false]) (by simp [results, Tryz.results221, go_sem]) rfl ⟨partR_no (K.out false (decide_eq_false (by omega)).symm), by repeat (first | exact Below.refl _ _ | refine below_drewN ?_ _ | refine Below.setCell ?_ (by simp) _ | refine Below.alloc ?_ (by simp) _)⟩
  obtain ⟨r1, r2⟩ := num_ok (show 0 ≤ Txt.val (Txt.cut1 45 s) by omega)
  by_cases q2 : Txt.val (Txt.cut1 45 s) < l
  · go_wp2_with fail
    exact bodyPost_ret (v := .tuple #[partV 0 0 0, .bool false]) (by simp [results, Tryz.results221, go_sem]) rfl ⟨partR_no (K.out false (decide_eq_false (by omega)).symm), by repeat (first | exact Below.refl _ _ | refine below_drewN ?_ _ | refine Below.setCell ?_ (by simp) _ | refine Below.alloc ?_ (by simp) _)⟩
  go_wp2_with fail
  refine (readNumber_any _ _ s1.out).mono ?_
  rintro e w' ⟨rfl, rfl⟩
  by_cases q5 : g < Txt.val (Txt.cut1 45 s)
  · go_wp2_with fail
    exact bodyPost_ret (v := .tuple #[partV 0 0 0, .bool false]) (by simp [results, Tryz.results221, go_sem]) rfl ⟨partR_no (K.out false (decide_eq_false (by omega)).symm), by repeat (first | exact Below.refl _ _ | refine below_drewN ?_ _ | refine Below.setCell ?_ (by simp) _ | refine Below.alloc ?_ (by simp) _)⟩
  go_wp2_with fail
  exact bodyPost_ret (v := .tuple #[partV (Txt.val (Txt.cut1 45 s)) (Txt.val (Txt.cut1 45 s)) 1, .bool true]) (by simp [results, Tryz.results221, go_sem]) rfl ⟨partR_yes (K.out true (decide_eq_true ⟨by omega, by omega, by omega⟩).symm) a.out b.out rfl, by repeat (first | exact Below.refl _ _ | refine below_drewN ?_ _ | refine Below.setCell ?_ (by simp) _ | refine Below.alloc ?_ (by simp) _)⟩

set_option maxHeartbeats 1000000 in
theorem rv_d (s : ByteArray) (l g : Int) (w : World) (hs : s.size ≤ 300) (l1 : 0 ≤ l) (l2 : l ≤ 1) (_g1 : 6 ≤ g) (_g2 : g ≤ 59) (h1 : Txt.star s = false) (h3 : Txt.cut3 45 s = true) :
    Calls Tryz.prog 221 #[.string s, .int .i64 l, .int .i64 g] w fun e w' => PartR (rvK l g s) (rvA l s) (rvB g s) 1 e ∧ Below w.heap.size w w' := by
  have hst : (s.toList == [42]) = false := h1
  have a : Hid (rvA l s = Txt.val (Txt.cut1 45 s)) := by unfold Hid; simp [rvA, h1]
  have b : Hid (rvB g s = Txt.val (Txt.cut2 45 s)) := by unfold Hid; simp [rvB, h1, h3]
  have K : Hid (∀ r : Bool, r = decide (l ≤ Txt.val (Txt.cut1 45 s) ∧ Txt.val (Txt.cut1 45 s) ≤ Txt.val (Txt.cut2 45 s) ∧ Txt.val (Txt.cut2 45 s) ≤ g) → rvK l g s = r) := fun r h => by rw [h, rvK, a.out, b.out]
  have s1 : Hid ((Txt.cut1 45 s).size ≤ 300) := Nat.le_trans (Txt.cut1_size _ _) hs
  have s2 : Hid ((Txt.cut2 45 s).size ≤ 300) := Nat.le_trans (Txt.cut2_size _ _) hs
  have bA := Txt.val_bd (Txt.cut1 45 s)
  have bB := Txt.val_bd (Txt.cut2 45 s)
  clear h1
  go_enter Tryz.func221, Tryz.ntmps221
  go_wp2_with fail
  refine (cut_any _ _ _ hs).mono ?_
  rintro e w' ⟨rfl, n1, rfl⟩
  go_wp2_with fail
  refine (readNumber_any _ _ s1.out).mono ?_
  rintro e w' ⟨rfl, rfl⟩
  by_cases q1 : Txt.val (Txt.cut1 45 s) < 0
  · obtain ⟨r1, r2⟩ := num_bad q1
    go_wp2_with fail
    exact bodyPost_ret (v := .tuple #[partV 0 0 0, .bool false]) (by simp [results, Tryz.results221, go_sem]) rfl ⟨partR_no (K.out false (decide_eq_false (by omega)).symm), by repeat (first | exact Below.refl _ _ | refine below_drewN ?_ _ | refine Below.setCell ?_ (by simp) _ | refine Below.alloc ?_ (by simp) _)⟩
  obtain ⟨r1, r2⟩ := num_ok (show 0 ≤ Txt.val (Txt.cut1 45 s) by omega)
  by_cases q2 : Txt.val (Txt.cut1 45 s) < l
  · go_wp2_with fail
    exact bodyPost_ret (v := .tuple #[partV 0 0 0, .bool false]) (by simp [results, Tryz.results221, go_sem]) rfl ⟨partR_no (K.out false (decide_eq_false (by omega)).symm), by repeat (first | exact Below.refl _ _ | refine below_drewN ?_ _ | refine Below.setCell ?_ (by simp) _ | refine Below.alloc ?_ (by simp) _)⟩
  go_wp2_with fail
  refine (readNumber_any _ _ s2.out).mono ?_
  rintro e w' ⟨rfl, rfl⟩
  by_cases q3 : Txt.val (Txt.cut2 45 s) < 0
  · obtain ⟨r3, r4⟩ := num_bad q3
    go_wp2_with fail
    exact bodyPost_ret (v := .tuple #[partV 0 0 0, .bool false]) (by simp [results, Tryz.results221, go_sem]) rfl ⟨partR_no (K.out false (decide_eq_false (by omega)).symm), by repeat (first | exact Below.refl _ _ | refine below_drewN ?_ _ | refine Below.setCell ?_ (by simp) _ | refine Below.alloc ?_ (by simp) _)⟩
  obtain ⟨r3, r4⟩ := num_ok (show 0 ≤ Txt.val (Txt.cut2 45 s) by omega)
  by_cases q4 : Txt.val (Txt.cut2 45 s) < Txt.val (Txt.cut1 45 s)
  · go_wp2_with fail
    exact bodyPost_ret (v := .tuple #[partV 0 0 0, .bool false]) (by simp [results, Tryz.results221, go_sem]) rfl ⟨partR_no (K.out false (decide_eq_false (by omega)).symm), by repeat (first | exact Below.refl _ _ | refine below_drewN ?_ _ | refine Below.setCell ?_ (by simp) _ | refine Below.alloc ?_ (by simp) _)⟩
  by_cases q5 : g < Txt.val (Txt.cut2 45 s)
  · go_wp2_with fail
    exact bodyPost_ret (v := .tuple #[partV 0 0 0, .bool false]) (by simp [results, Tryz.results221, go_sem]) rfl ⟨partR_no (K.out false (decide_eq_false (by omega)).symm), by repeat (first | exact Below.refl _ _ | refine below_drewN ?_ _ | refine Below.setCell ?_ (by simp) _ | refine Below.alloc ?_ (by simp) _)⟩
  go_wp2_with fail
  exact bodyPost_ret (v := .tuple #[partV (Txt.val (Txt.cut1 45 s)) (Txt.val (Txt.cut2 45 s)) 1, .bool true]) (by simp [results, Tryz.results221, go_sem]) rfl ⟨partR_yes (K.out true (decide_eq_true ⟨by omega, by omega, by omega⟩).symm) a.out b.out rfl, by repeat (first | exact Below.refl _ _ | refine below_drewN ?_ _ | refine Below.setCell ?_ (by simp) _ | refine Below.alloc ?_ (by simp) _)⟩

theorem readValues_any (s : ByteArray) (l g : Int) (w : World) (hs : s.size ≤ 300) (l1 : 0 ≤ l) (l2 : l ≤ 1) (g1 : 6 ≤ g) (g2 : g ≤ 59) :
    Calls Tryz.prog 221 #[.string s, .int .i64 l, .int .i64 g] w fun e w' => PartR (rvK l g s) (rvA l s) (rvB g s) 1 e ∧ Below w.heap.size w w' := by
  cases h1 : Txt.star s
  · cases h3 : Txt.cut3 45 s
    · exact rv_c s l g w hs l1 l2 g1 g2 h1 h3
    · exact rv_d s l g w hs l1 l2 g1 g2 h1 h3
  · exact rv_star s l g w hs l1 l2 g1 g2 h1
end Go.Proofs.YtdajolpoiffimaaGreatDoor

namespace Go.Proofs.YtdajolpoiffimaaGreatDoor
open Go.RowKit

theorem digs_plain {s : ByteArray} (h : Txt.digs s = true) : Txt.star s = false ∧ Txt.cut3 45 s = false := by
  constructor
  · cases e : Txt.star s
    · rfl
    · have e' : s.toList = [42] := by simpa [Txt.star] using e
      have hl : s.data.toList = [42] := by rw [← e']; simp [ByteArray.toList_eq]
      rw [Txt.digs, hl] at h
      cases h
  · have hn : Txt.NoSep 45 s 0 s.size := by
      intro j hj _ _
      have := Txt.dg_of (Txt.digs_at h j hj)
      have : ¬ ((s[j].toNat : Int) = 45) := by omega
      simpa using this
    exact (Txt.cut_no hn).2.2
theorem rv_nodash {l g : Int} {s : ByteArray} (l1 : 0 ≤ l) (h : Txt.digs s = false) (k : rvK l g s = true) : Txt.star s = true ∨ Txt.cut3 45 s = true := by
  cases h1 : Txt.star s
  · cases h3 : Txt.cut3 45 s
    · exfalso
      have hf : ¬ Txt.fst 45 s < s.size := by simpa [Txt.cut3] using h3
      have e : Txt.cut1 45 s = s := by simp [Txt.cut1, hf]
      have v : Txt.val s = -1 := Txt.val_no (Or.inr (Or.inr h))
      have := (of_decide_eq_true k).1
      simp [rvA, h1, e, v] at this
      omega
    · exact Or.inr rfl
  · exact Or.inl rfl
theorem spK_eq (l g : Int) (p : ByteArray) : Txt.spK l g p = decide ((Txt.star (Txt.cut1 47 p) = true ∨ Txt.cut3 47 p = false ∨ Txt.cut3 45 (Txt.cut1 47 p) = true) ∧ 1 ≤ Txt.spS p ∧ rvK l g (Txt.cut1 47 p) = true) := by
  have : Txt.spK l g p = decide ((Txt.star (Txt.cut1 47 p) = true ∨ Txt.cut3 47 p = false ∨ Txt.cut3 45 (Txt.cut1 47 p) = true) ∧ 1 ≤ Txt.spS p ∧ l ≤ rvA l (Txt.cut1 47 p) ∧ rvA l (Txt.cut1 47 p) ≤ rvB g (Txt.cut1 47 p) ∧ rvB g (Txt.cut1 47 p) ≤ g) := rfl
  rw [this]
  simp only [rvK, decide_eq_true_eq]

set_option maxHeartbeats 1000000 in
theorem rp_a (p : ByteArray) (l g : Int) (w : World) (hs : p.size ≤ 300) (l1 : 0 ≤ l) (l2 : l ≤ 1) (g1 : 6 ≤ g) (g2 : g ≤ 59) (h2 : Txt.cut3 47 p = false) :
    Calls Tryz.prog 207 #[.string p, .int .i64 l, .int .i64 g] w fun e w' => PartR (Txt.spK l g p) (Txt.spA l p) (Txt.spB g p) (Txt.spS p) e ∧ Below w.heap.size w w' := by
  have K : Hid (Txt.spK l g p = rvK l g (Txt.cut1 47 p)) := by
    have e : Txt.spS p = 1 := by simp [Txt.spS, h2]
    unfold Hid; rw [spK_eq, e]
    cases q : rvK l g (Txt.cut1 47 p) <;> simp [h2]
  have S : Hid (Txt.spS p = 1) := by unfold Hid; simp [Txt.spS, h2]
  have s1 : Hid ((Txt.cut1 47 p).size ≤ 300) := Nat.le_trans (Txt.cut1_size _ _) hs
  have s2 : Hid ((Txt.cut2 47 p).size ≤ 300) := Nat.le_trans (Txt.cut2_size _ _) hs
  go_enter Tryz.func207, Tryz.ntmps207
  go_wp2_with fail
  refine (cut_any _ _ _ hs).mono ?_
  rintro e w' ⟨rfl, n1, rfl⟩
  go_wp2_with fail
  refine (readValues_any _ _ _ _ s1.out l1 l2 g1 g2).mono ?_
  rintro e w1 ⟨hR, hb⟩
  have B1 : Hid (Below w.heap.size w w1) := (below_drewN (below_alloc w _) _).trans (hb.mono (by simp))
  obtain ⟨hc, hf⟩ := bcell hb
  have hz : w.heap.size < w1.heap.size := by have := hb.size; simp at this; omega
  have hz0 : w.heap.size ≤ w1.heap.size := by omega
  clear hb
  rcases hR with ⟨k, rfl⟩ | ⟨k, rfl⟩
  · have KK : Hid (Txt.spK l g p = true) := K.out.trans k
    clear k
    go_wp2_with fail
    exact bodyPost_ret (v := .tuple #[partV (rvA l (Txt.cut1 47 p)) (rvB g (Txt.cut1 47 p)) 1, .bool true]) (by simp [results, Tryz.results207, go_sem, hc]) rfl ⟨partR_yes KK.out rfl rfl S.out, by repeat (first | exact Below.refl _ _ | exact B1.out | refine below_drewN ?_ _ | refine Below.setCell ?_ (by simp) _ | refine Below.alloc ?_ (by first | exact hz0 | (simp; done) | (simp; omega)) _)⟩
  · have KK : Hid (Txt.spK l g p = false) := K.out.trans k
    clear k
    go_wp2_with fail
    exact bodyPost_ret (v := .tuple #[partV 0 0 0, .bool false]) (by simp [results, Tryz.results207, go_sem, hc]) rfl ⟨partR_no KK.out, by repeat (first | exact Below.refl _ _ | exact B1.out | refine below_drewN ?_ _ | refine Below.setCell ?_ (by simp) _ | refine Below.alloc ?_ (by first | exact hz0 | (simp; done) | (simp; omega)) _)⟩

set_option maxHeartbeats 1000000 in
theorem rp_b (p : ByteArray) (l g : Int) (w : World) (hs : p.size ≤ 300) (_l1 : 0 ≤ l) (_l2 : l ≤ 1) (_g1 : 6 ≤ g) (_g2 : g ≤ 59) (h2 : Txt.cut3 47 p = true) (hd : Txt.digs (Txt.cut1 47 p) = true) :
    Calls Tryz.prog 207 #[.string p, .int .i64 l, .int .i64 g] w fun e w' => PartR (Txt.spK l g p) (Txt.spA l p) (Txt.spB g p) (Txt.spS p) e ∧ Below w.heap.size w w' := by
  have KK : Hid (Txt.spK l g p = false) := by
    have := digs_plain hd
    unfold Hid; rw [spK_eq]; simp [h2, this.1, this.2]
  have s1 : Hid ((Txt.cut1 47 p).size ≤ 300) := Nat.le_trans (Txt.cut1_size _ _) hs
  have s2 : Hid ((Txt.cut2 47 p).size ≤ 300) := Nat.le_trans (Txt.cut2_size _ _) hs
  go_enter Tryz.func207, Tryz.ntmps207
  go_wp2_with fail
  refine (cut_any _ _ _ hs).mono ?_
  rintro e w' ⟨rfl, n1, rfl⟩
  go_wp2_with fail
  refine (isDigits_any _ _ s1.out).mono ?_
  rintro e w' ⟨rfl, rfl⟩
  go_wp2_with fail
  exact bodyPost_ret (v := .tuple #[partV 0 0 0, .bool false]) (by simp [results, Tryz.results207, go_sem]) rfl ⟨partR_no KK.out, by repeat (first | exact Below.refl _ _ | refine below_drewN ?_ _ | refine Below.setCell ?_ (by simp) _ | refine Below.alloc ?_ (by simp) _)⟩

set_option maxHeartbeats 1000000 in
theorem rp_c (p : ByteArray) (l g : Int) (w : World) (hs : p.size ≤ 300) (l1 : 0 ≤ l) (l2 : l ≤ 1) (g1 : 6 ≤ g) (g2 : g ≤ 59) (h2 : Txt.cut3 47 p = true) (hd : Txt.digs (Txt.cut1 47 p) = false) :
    Calls Tryz.prog 207 #[.string p, .int .i64 l, .int .i64 g] w fun e w' => PartR (Txt.spK l g p) (Txt.spA l p) (Txt.spB g p) (Txt.spS p) e ∧ Below w.heap.size w w' := by
  have S : Hid (Txt.spS p = Txt.val (Txt.cut2 47 p)) := by unfold Hid; simp [Txt.spS, h2]
  have K0 : Hid (rvK l g (Txt.cut1 47 p) = false → Txt.spK l g p = false) := fun k => by rw [spK_eq]; simp [k]
  have K1 : Hid (Txt.val (Txt.cut2 47 p) < 1 → Txt.spK l g p = false) := fun k => by rw [spK_eq, S.out]; exact decide_eq_false (by omega)
  have K2 : Hid (rvK l g (Txt.cut1 47 p) = true → 1 ≤ Txt.val (Txt.cut2 47 p) → Txt.spK l g p = true) := fun k q => by
    rw [spK_eq, S.out]
    exact decide_eq_true ⟨by rcases rv_nodash l1 hd k with h | h <;> simp [h], q, k⟩
  have s1 : Hid ((Txt.cut1 47 p).size ≤ 300) := Nat.le_trans (Txt.cut1_size _ _) hs
  have s2 : Hid ((Txt.cut2 47 p).size ≤ 300) := Nat.le_trans (Txt.cut2_size _ _) hs
  go_enter Tryz.func207, Tryz.ntmps207
  go_wp2_with fail
  refine (cut_any _ _ _ hs).mono ?_
  rintro e w' ⟨rfl, n1, rfl⟩
  go_wp2_with fail
  refine (isDigits_any _ _ s1.out).mono ?_
  rintro e w' ⟨rfl, rfl⟩
  go_wp2_with fail
  refine (readValues_any _ _ _ _ s1.out l1 l2 g1 g2).mono ?_
  rintro e w1 ⟨hR, hb⟩
  have B1 : Hid (Below w.heap.size w w1) := (below_drewN (below_alloc w _) _).trans (hb.mono (by simp))
  obtain ⟨hc, hf⟩ := bcell hb
  have hz : w.heap.size < w1.heap.size := by have := hb.size; simp at this; omega
  have hz0 : w.heap.size ≤ w1.heap.size := by omega
  clear hb
  have bS := Txt.val_bd (Txt.cut2 47 p)
  rcases hR with ⟨k, rfl⟩ | ⟨k, rfl⟩
  · have kk : Hid (rvK l g (Txt.cut1 47 p) = true) := k
    clear k
    go_wp2_with fail
    refine (readNumber_any _ _ s2.out).mono ?_
    rintro e w' ⟨rfl, rfl⟩
    by_cases q1 : Txt.val (Txt.cut2 47 p) < 0
    · obtain ⟨r1, r2⟩ := num_bad q1
      go_wp2_with fail
      exact bodyPost_ret (v := .tuple #[partV 0 0 0, .bool false]) (by simp [results, Tryz.results207, go_sem, hc, hz]) rfl ⟨partR_no (K1.out (by omega)), by repeat (first | exact Below.refl _ _ | exact B1.out | refine below_drewN ?_ _ | refine Below.setCell ?_ (by simp) _ | refine Below.alloc ?_ (by first | exact hz0 | (simp; done) | (simp; omega)) _)⟩
    obtain ⟨r1, r2⟩ := num_ok (show 0 ≤ Txt.val (Txt.cut2 47 p) by omega)
    by_cases q2 : Txt.val (Txt.cut2 47 p) < 1
    · go_wp2_with fail
      exact bodyPost_ret (v := .tuple #[partV 0 0 0, .bool false]) (by simp [results, Tryz.results207, go_sem, hc, hz]) rfl ⟨partR_no (K1.out (by omega)), by repeat (first | exact Below.refl _ _ | exact B1.out | refine below_drewN ?_ _ | refine Below.setCell ?_ (by simp) _ | refine Below.alloc ?_ (by first | exact hz0 | (simp; done) | (simp; omega)) _)⟩
    go_wp2_with fail
    exact bodyPost_ret (v := .tuple #[partV (rvA l (Txt.cut1 47 p)) (rvB g (Txt.cut1 47 p)) (Txt.val (Txt.cut2 47 p)), .bool true]) (by simp [results, Tryz.results207, go_sem, hc, hz]) rfl ⟨partR_yes (K2.out kk.out (by omega)) rfl rfl S.out, by repeat (first | exact Below.refl _ _ | exact B1.out | refine below_drewN ?_ _ | refine Below.setCell ?_ (by simp) _ | refine Below.alloc ?_ (by first | exact hz0 | (simp; done) | (simp; omega)) _)⟩
  · have KK : Hid (Txt.spK l g p = false) := K0.out k
    clear k
    go_wp2_with fail
    exact bodyPost_ret (v := .tuple #[partV 0 0 0, .bool false]) (by simp [results, Tryz.results207, go_sem, hc, hz]) rfl ⟨partR_no KK.out, by repeat (first | exact Below.refl _ _ | exact B1.out | refine below_drewN ?_ _ | refine Below.setCell ?_ (by simp) _ | refine Below.alloc ?_ (by first | exact hz0 | (simp; done) | (simp; omega)) _)⟩

theorem readPart_any (p : ByteArray) (l g : Int) (w : World) (hs : p.size ≤ 300) (l1 : 0 ≤ l) (l2 : l ≤ 1) (g1 : 6 ≤ g) (g2 : g ≤ 59) :
    Calls Tryz.prog 207 #[.string p, .int .i64 l, .int .i64 g] w fun e w' => PartR (Txt.spK l g p) (Txt.spA l p) (Txt.spB g p) (Txt.spS p) e ∧ Below w.heap.size w w' := by
  cases h2 : Txt.cut3 47 p
  · exact rp_a p l g w hs l1 l2 g1 g2 h2
  · cases hd : Txt.digs (Txt.cut1 47 p)
    · exact rp_c p l g w hs l1 l2 g1 g2 h2 hd
    · exact rp_b p l g w hs l1 l2 g1 g2 h2 hd
end Go.Proofs.YtdajolpoiffimaaGreatDoor

namespace Go.Proofs.YtdajolpoiffimaaGreatDoor
open Go.RowKit

/-- The parts of a field lie one behind the other. -/
def PartsAt (w : World) (b : Nat) (l g : Int) (L : List ByteArray) : Prop := ∀ k (h : k < L.length), w.cell? ⟨b, k * 3, none⟩ = some (.int .i64 (Txt.spA l L[k])) ∧ w.cell? ⟨b, k * 3 + 1, none⟩ = some (.int .i64 (Txt.spB g L[k])) ∧ w.cell? ⟨b, k * 3 + 2, none⟩ = some (.int .i64 (Txt.spS L[k]))
theorem PartsAt.later {w w' : World} {b : Nat} {l g : Int} {L : List ByteArray} (a : PartsAt w b l g L) (hb : Below w.heap.size w w') : PartsAt w' b l g L :=
  fun k h => ⟨cell_later hb (a k h).1, cell_later hb (a k h).2.1, cell_later hb (a k h).2.2⟩

set_option maxHeartbeats 1000000 in
theorem fieldHolds_any (f : ByteArray) (l g v : Int) (o : Bool) (b cap : Nat) (w : World) (hs : f.size ≤ 300) (l1 : 0 ≤ l) (g2 : g ≤ 59) (v1 : 0 ≤ v) (v2 : v ≤ 60) (hf : Txt.fldB l g f = true) (hP : PartsAt w b l g (Txt.pcs 44 f)) (_hcap : (Txt.pcs 44 f).length ≤ cap) :
    Calls Tryz.prog 195 #[.agg #[.bool o, .slice (some ⟨b, 0, none⟩) (Txt.pcs 44 f).length cap], .int .i64 v] w fun e w' => e = .returned (.bool (Txt.hldB l g v f)) ∧ Below w.heap.size w w' := by
  have HF : Hid (Txt.fldB l g f = true) := hf
  have HP : Hid (∀ o, PartsAt (w.alloc o) b l g (Txt.pcs 44 f)) := fun o => hP.later (below_alloc _ _)
  have hlen := Txt.pcs_len 44 f
  clear hf hP
  go_enter Tryz.func195, Tryz.ntmps195
  go_wp2_with fail
  go_loopw [5] (fun x wr => ∃ k : Nat, k ≤ (Txt.pcs 44 f).length ∧ x = .int .i64 k ∧ (∀ j (hj : j < (Txt.pcs 44 f).length), j < k → Txt.inB (Txt.spA l (Txt.pcs 44 f)[j]) (Txt.spB g (Txt.pcs 44 f)[j]) (Txt.spS (Txt.pcs 44 f)[j]) v = false) ∧ Below (w.alloc (.cells #[.bool o, .slice (some ⟨b, 0, none⟩) (Txt.pcs 44 f).length cap] 187)).heap.size (w.alloc (.cells #[.bool o, .slice (some ⟨b, 0, none⟩) (Txt.pcs 44 f).length cap] 187)) wr) (fun x _ => (Txt.pcs 44 f).length - (intOf x).toNat)
  case atStart => exact ⟨0, Nat.zero_le _, rfl, fun j _ h => by omega, Below.refl _ _⟩
  case round =>
    obtain ⟨k, hk, rfl, hall, hb⟩ := hrel
    have HA : Hid (∀ j (hj : j < (Txt.pcs 44 f).length), j < k → Txt.inB (Txt.spA l (Txt.pcs 44 f)[j]) (Txt.spB g (Txt.pcs 44 f)[j]) (Txt.spS (Txt.pcs 44 f)[j]) v = false) := hall
    clear hall
    have hbox : wr.cell? ⟨w.heap.size, 1, none⟩ = some (.slice (some ⟨b, 0, none⟩) (Txt.pcs 44 f).length cap) := cell_later hb (by simp [go_sem])
    have HB : Hid (Below w.heap.size w wr) := (below_alloc w _).trans (hb.mono (by simp))
    by_cases hlt : k < (Txt.pcs 44 f).length
    · obtain ⟨c0, c1, c2⟩ := ((HP.out _).later hb) k hlt
      have hK := Txt.fldB_at HF.out k hlt
      have hbd := Txt.spK_bd hK
      clear hK
      go_wp2_with fail
      refine (partHolds_any _ _ _ _ _ v1 v2 (by omega) (by omega) (by omega) (by omega)).mono ?_
      rintro e w2 ⟨rfl, hb2⟩
      have hb' := hb.trans (hb2.mono hb.size)
      have HB' : Hid (Below w.heap.size w w2) := HB.out.trans (hb2.mono (by have := hb.size; simp at this; omega))
      clear hb hb2 c0 c1 c2 hbox
      cases hq : Txt.inB (Txt.spA l (Txt.pcs 44 f)[k]) (Txt.spB g (Txt.pcs 44 f)[k]) (Txt.spS (Txt.pcs 44 f)[k]) v
      · have HQ : Hid (Txt.inB (Txt.spA l (Txt.pcs 44 f)[k]) (Txt.spB g (Txt.pcs 44 f)[k]) (Txt.spS (Txt.pcs 44 f)[k]) v = false) := hq
        go_wp2_with fail
        go_roundw
        case rel =>
          refine ⟨k + 1, by omega, by go_num, fun j hj h => ?_, hb'⟩
          by_cases q : j = k
          · subst q; exact HQ.out
          · exact HA.out j hj (by omega)
        case measure => simp [intOf]; omega
      · have e : Hid (Txt.hldB l g v f = true) := Txt.hldB_yes hlt hq
        go_wp2_with fail
        go_ret
        exact ⟨ret_bool' e.out.symm, HB'.out⟩
    · have e : Hid (Txt.hldB l g v f = false) := Txt.hldB_no (fun j hj => HA.out j hj (by omega))
      go_wp2_with fail
      go_ret
      exact ⟨ret_bool' e.out.symm, HB.out⟩
end Go.Proofs.YtdajolpoiffimaaGreatDoor

namespace Go.Proofs.YtdajolpoiffimaaGreatDoor
open Go.RowKit
open Txt (NoSep)

set_option maxHeartbeats 1000000 in
theorem split_any (s : ByteArray) (c : Int) (w : World) (hs : s.size ≤ 300) :
    Calls Tryz.prog 187 #[.string s, .int .u8 c] w fun e w' => (∃ b cap, e = .returned (.slice (some ⟨b, 0, none⟩) (Txt.pcs c s).length cap) ∧ w.heap.size ≤ b ∧ (Txt.pcs c s).length ≤ cap ∧ StrsAt w' b (Txt.pcs c s)) ∧ Below w.heap.size w w' := by
  obtain ⟨i0, hi, hz0, hz1, hz2⟩ := info_parts infoStr
  go_enter Tryz.func187, Tryz.ntmps187
  go_wp2_with fail
  go_loopw [5, 6, 7] (fun v st i wr => ∃ (k a : Nat) (L : List ByteArray), k ≤ s.size ∧ a ≤ k ∧ i = .int .i64 k ∧ st = .int .i64 a ∧ L.length ≤ a ∧ Txt.pcs c s = L ++ Txt.pcs c (s.extract a s.size) ∧ NoSep c s a k ∧ wr.ownsRow w.heap.size 9 1 v L.length (L.map Value.string) ∧ Below w.heap.size w wr) (fun _ _ i _ => s.size - (intOf i).toNat)
  case atStart =>
    refine ⟨0, 0, [], Nat.zero_le _, Nat.le_refl _, rfl, rfl, Nat.le_refl _, ?_, NoSep.nil _ _ _, ?_, below_alloc _ _⟩
    · rw [Txt.whole]; rfl
    · exact ⟨rfl, Or.inr ⟨w.heap.size, 0, #[], rfl, Nat.le_refl _, (MapKept.heap_alloc w _).1, Nat.le_refl _, Nat.zero_le _, rfl, rfl⟩⟩
  case round =>
    obtain ⟨k, a, L, hk, ha, rfl, rfl, hL, hp, hn, hown, hnx⟩ := hrel
    have HP : Hid (Txt.pcs c s = L ++ Txt.pcs c (s.extract a s.size)) := hp
    have HN : Hid (NoSep c s a k) := hn
    have hsz := hnx.size
    clear hp hn
    by_cases hlt : k < s.size
    · cases he : ((s[k].toNat : Int) == c)
      · have HN' : Hid (NoSep c s a (k + 1)) := HN.out.snoc hlt he
        go_wp2_with fail
        go_roundw
        case rel => exact ⟨k + 1, a, L, by omega, by omega, by go_num, rfl, hL, HP.out, HN'.out, hown, hnx⟩
        case measure => simp [intOf]; omega
      · have HP' : Hid (Txt.pcs c s = (L ++ [s.extract a k]) ++ Txt.pcs c (s.extract (k + 1) s.size)) := by
          unfold Hid; rw [HP.out, Txt.pcs_step HN.out hlt ha he]; simp
        go_wp2_with (at_builtin; refine wpList_append_lies _ rfl (.tmp 20) (.tmp 25) 47 rfl w.heap.size 9 i0 (.string ByteArray.empty) 1 16 Tryz.underlying47 hi hz0 hz1 hz2 rfl (by decide) _ _ _ rfl (hown.alloc _) ⟨wr.heap.size, 0, none⟩ 1 1 [.string (s.extract a k)] rfl rfl ?c1 ?c2 (by decide) ?c3 ?c4 ?c5 _ rfl ?_)
        case c1 => exact cell_one_new _ _ _
        case c2 => intro u hu; simp at hu; subst hu; rfl
        case c3 => unfold maxLen; omega
        case c4 => omega
        case c5 => simp; omega
        · intro g cap w1 hown' hgrow _ hlt'
          have B1 : Below w.heap.size w w1 := (hnx.alloc hsz _).grown hgrow (by simp; omega) (fun k' e => (hown.lt k' e).1)
          have hown2 : w1.ownsRow w.heap.size 9 1 (.slice (some ⟨g, 0, none⟩) (L.length + 1) cap) (L ++ [s.extract a k]).length ((L ++ [s.extract a k]).map Value.string) := by simpa using hown'
          clear hown' hgrow hown hnx
          go_wp2_with fail
          go_roundw
          case rel => exact ⟨k + 1, k + 1, L ++ [s.extract a k], by omega, by omega, by go_num, by go_num, by simp; omega, HP'.out, NoSep.nil _ _ _, hown2, B1⟩
          case measure => simp [intOf]; omega
    · obtain rfl : k = s.size := by omega
      have HP' : Hid (Txt.pcs c s = L ++ [s.extract a s.size]) := by unfold Hid; rw [HP.out, Txt.pcs_last HN.out]
      go_wp2_with (at_builtin; refine wpList_append_lies _ rfl (.tmp 29) (.tmp 33) 47 rfl w.heap.size 9 i0 (.string ByteArray.empty) 1 16 Tryz.underlying47 hi hz0 hz1 hz2 rfl (by decide) _ _ _ rfl (hown.alloc _) ⟨wr.heap.size, 0, none⟩ 1 1 [.string (s.extract a s.size)] rfl rfl ?c1 ?c2 (by decide) ?c3 ?c4 ?c5 _ rfl ?_)
      case c1 => exact cell_one_new _ _ _
      case c2 => intro u hu; simp at hu; subst hu; rfl
      case c3 => unfold maxLen; omega
      case c4 => omega
      case c5 => simp; omega
      · intro g cap w1 hown' hgrow _ hlt'
        have B1 : Below w.heap.size w w1 := (hnx.alloc hsz _).grown hgrow (by simp; omega) (fun k' e => (hown.lt k' e).1)
        have hown2 : w1.ownsRow w.heap.size 9 1 (.slice (some ⟨g, 0, none⟩) (L.length + 1) cap) (L.length + 1) ((L ++ [s.extract a s.size]).map Value.string) := by simpa using hown'
        have hlen : L.length + 1 = (Txt.pcs c s).length := by rw [HP'.out]; simp
        have hA : StrsAt w1 g (Txt.pcs c s) := by rw [HP'.out]; exact strs_of_own hown2 (by simp)
        have hcap : L.length + 1 ≤ cap ∧ w.heap.size ≤ g := by
          rcases hown2.2 with ⟨h, _⟩ | ⟨g', cap', cur, h, h3, _, h2, _⟩
          · cases h
          · cases h; exact ⟨h2, h3⟩
        clear hown' hgrow hown hnx hown2
        go_wp2_with fail
        go_ret
        exact ⟨⟨g, cap, ret_slice hlen, hcap.2, by omega, hA⟩, B1⟩
end Go.Proofs.YtdajolpoiffimaaGreatDoor

namespace Go.Proofs.YtdajolpoiffimaaGreatDoor
open Go.RowKit

set_option maxHeartbeats 1000000 in
theorem splitLines_any (s : ByteArray) (w : World) (hs : s.size ≤ 300) :
    Calls Tryz.prog 154 #[.string s] w fun e w' => (∃ b cap, e = .returned (.tuple #[.slice (some ⟨b, 0, none⟩) (tn s) cap, .string (tl s (tn s))]) ∧ w.heap.size ≤ b ∧ tn s ≤ cap ∧ StrsAt w' b (Txt.pcs 10 s)) ∧ Below w.heap.size w w' := by
  go_enter Tryz.func154, Tryz.ntmps154
  go_wp2_with fail
  refine (split_any _ _ _ hs).mono ?_
  rintro e w1 ⟨⟨b, cap, rfl, hge, hcap, hS⟩, hb⟩
  have hlen := Txt.pcs_len 10 s
  have hn := tn_len s
  have HN : Hid ((Txt.pcs 10 s).length = tn s + 1) := hn
  have HS : Hid (StrsAt w1 b (Txt.pcs 10 s)) := hS
  rw [hn] at hcap hlen ⊢
  have c : w1.cell? ⟨b, tn s, none⟩ = some (.string (tl s (tn s))) := by rw [← tl_eq (tn_lt s)]; exact hS _ (tn_lt s)
  clear hn hS
  have b1 : (0 : Int) ≤ (tn s : Int) := by omega
  have b2 : (tn s : Int) < ((tn s + 1 : Nat) : Int) := by omega
  have b3 : (tn s : Int) ≤ (cap : Int) := by omega
  go_wp2_with fail
  go_quiet (fail)
  go_wp2_with fail
  go_ret2
  exact ⟨⟨b, cap, rfl, hge, by omega, HS.out⟩, below_drewN hb _⟩
end Go.Proofs.YtdajolpoiffimaaGreatDoor
