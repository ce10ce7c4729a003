/-
  RefHear, RefHear2, RefFeed.
-/
import Derived.Test.YtdajolpoiffimaaGreatDoorL5

namespace Go.Proofs.YtdajolpoiffimaaGreatDoor
open Go.RowKit

set_option maxHeartbeats 1000000 in
theorem behind_any (t u : ByteArray) (w : World) (ht : t.size ≤ 1000000000000000000) (hu : u.size ≤ 1000) (hu1 : 0 < u.size) :
    Calls Tryz.prog 175 #[.string t, .string u] w fun e w' => e = .returned (.tuple #[.string (behS t u), .bool (behB t u)]) ∧ w' = w := by
  go_enter Tryz.func175, Tryz.ntmps175
  go_wp2_with fail
  go_loop [0] (fun v => ∃ y : ByteArray, v = .string y ∧ y.size ≤ 1000000000000000000 ∧ behL u.data.toList y.data.toList = behL u.data.toList t.data.toList) (fun v => strSize v)
  case atStart => exact ⟨t, rfl, ht, rfl⟩
  case round =>
    obtain ⟨y, rfl, hy, hbe⟩ := hrel
    have Hbe : Hid (behL u.data.toList y.data.toList = behL u.data.toList t.data.toList) := hbe
    clear hbe
    by_cases hlt : u.size ≤ y.size
    · have z1 : (u.size : Int) ≤ (y.size : Int) := by omega
      have hul : u.data.toList.length = u.size := by simp
      have hyl : y.data.toList.length = y.size := by simp
      cases he : ((y.extract 0 u.size).toList == u.toList)
      · have hp : u.data.toList.isPrefixOf y.data.toList = false := by
          cases hh : u.data.toList.isPrefixOf y.data.toList
          · rfl
          · have h1 := List.prefix_iff_eq_take.1 (List.isPrefixOf_iff_prefix.1 hh)
            have h2 : (y.extract 0 u.size).toList = u.toList := by
              rw [ByteArray.toList_eq, ByteArray.toList_eq, ext_list, List.drop_zero, Nat.sub_zero, ← hul, ← h1]
            rw [h2] at he; simp at he
        have HN : Hid (behL u.data.toList (y.extract 1 y.size).data.toList = behL u.data.toList t.data.toList) := by
          unfold Hid
          rw [← Hbe.out, ext_list]
          cases hy2 : y.data.toList with
          | nil => rw [hy2] at hyl; simp at hyl; omega
          | cons a r =>
            rw [hy2] at hp hyl
            rw [behL_no hp]
            congr 1
            simp at hyl
            rw [List.drop_one, List.tail_cons, List.take_of_length_le (by omega)]
        clear hp hul hyl
        go_wp2_with fail
        go_round
        case rel => exact ⟨_, rfl, by simp; omega, HN.out⟩
        case measure => simp [strSize]; omega
      · have hp : u.data.toList.isPrefixOf y.data.toList = true := by
          have h2 : (y.extract 0 u.size).toList = u.toList := by simpa using he
          rw [ByteArray.toList_eq, ByteArray.toList_eq, ext_list, List.drop_zero, Nat.sub_zero] at h2
          rw [List.isPrefixOf_iff_prefix, List.prefix_iff_eq_take, hul]; exact h2.symm
        have HN : Hid (behL u.data.toList t.data.toList = some (y.data.toList.drop u.size)) := by
          unfold Hid; rw [← Hbe.out, behL_yes hp, hul]
        have HS : Hid (behS t u = y.extract u.size y.size ∧ behB t u = true) := by
          unfold Hid behS behB; rw [HN.out]
          refine ⟨?_, rfl⟩
          apply ByteArray.ext
          apply Array.toList_inj.1
          rw [ext_list]
          show (y.data.toList.drop u.size) = _
          rw [List.take_of_length_le (by rw [List.length_drop, hyl]; omega)]
        clear hp hul hyl HN
        go_wp2_with fail
        go_ret2
        rw [HS.out.1, HS.out.2]
        exact ⟨rfl, rfl⟩
    · have z1 : ¬ (u.size : Int) ≤ (y.size : Int) := by omega
      have HS : Hid (behS t u = ByteArray.empty ∧ behB t u = false) := by
        unfold Hid behS behB
        rw [← Hbe.out, behL_short (by simp; omega)]
        exact ⟨rfl, rfl⟩
      go_wp2_with fail
      go_ret2
      rw [HS.out.1, HS.out.2]
      exact ⟨rfl, rfl⟩
end Go.Proofs.YtdajolpoiffimaaGreatDoor

namespace Go.Proofs.YtdajolpoiffimaaGreatDoor
open Go.RowKit

abbrev tkV (t : Bx.Tk) : Value := .agg #[.int .i64 t.num, .int .i64 t.at', .int .i64 t.since, .string t.heard]
theorem ret_tk {t u : Bx.Tk} {a b : ByteArray} (h : (t, a) = (u, b)) : Ending.returned (.tuple #[tkV t, .string a]) = .returned (.tuple #[tkV u, .string b]) := by cases h; rfl
structure RkIn (W : World) (q : Nat) (t : Bx.Tk) : Prop where
  c0 : W.cell? ⟨q, 0, none⟩ = some (.int .i64 t.num)
  c1 : W.cell? ⟨q, 1, none⟩ = some (.int .i64 t.at')
  c2 : W.cell? ⟨q, 2, none⟩ = some (.int .i64 t.since)
  c3 : W.cell? ⟨q, 3, none⟩ = some (.string t.heard)
set_option maxRecDepth 10000 in
set_option maxHeartbeats 2000000 in
theorem hears_any (L : List ByteArray) (v : Value) (c : Int) (hLn : L.length ≤ 100) (hL : ∀ s ∈ L, 2 ≤ s.size ∧ s.size ≤ 9) (n : Nat) : n ≤ 1000 → ∀ (t : Bx.Tk) (a : Nat) (w : World), t.at' = (a : Int) → a ≤ L.length → L.length - a ≤ n → t.heard.size ≤ 1000000000000000000 → RowAt w v L.length (L.map Value.string) →
    Calls Tryz.prog 141 #[tkV t, v, .int .i64 c] w fun e w' => e = .returned (.tuple #[tkV (hearF L c n t).1, .string (hearF L c n t).2]) ∧ Below w.heap.size w w' := by
  induction n with
  | zero =>
    intro hn0 t a w hta ha hn hh hR
    obtain ⟨ad, cap, rfl, hcap⟩ := hR.form
    obtain ⟨tn, tat, ts, th⟩ := t
    dsimp only at *
    have q1 : (L.length : Int) ≤ tat := by omega
    clear hR hL hta
    go_enter Tryz.func141, Tryz.ntmps141
    go_wp2_with fail
    exact bodyPost_ret (v := .tuple #[tkV ⟨tn, tat, ts, th⟩, .string ByteArray.empty]) (by simp [results, Tryz.results141, go_sem]; rfl) rfl ⟨rfl, (below_alloc _ _).alloc (by simp) _⟩
  | succ n ih =>
    intro hn0 t a w hta ha hn hh hR
    obtain ⟨tn, tat, ts, th⟩ := t
    dsimp only at *
    subst hta
    have HF : Hid (hearF L c (n + 1) ⟨tn, (a : Int), ts, th⟩ = if (L.length : Int) ≤ (a : Int) then (⟨tn, (a : Int), ts, th⟩, ByteArray.empty) else if behB th (wordAt L a) = false then (⟨tn, (a : Int), ts, th⟩, ByteArray.empty)
      else ((hearF L c n ⟨tn, ((a + 1 + (saysL (L.drop (a + 1))).2 : Nat) : Int), c, behS th (wordAt L a)⟩).1, (saysL (L.drop (a + 1))).1 ++ (hearF L c n ⟨tn, ((a + 1 + (saysL (L.drop (a + 1))).2 : Nat) : Int), c, behS th (wordAt L a)⟩).2)) := rfl
    by_cases hlt : a < L.length
    · rw [if_neg (by omega)] at HF
      have hk2 := hL L[a] (List.getElem_mem _)
      have HB : Hid (∀ W : World, Calls Tryz.prog 175 #[.string th, .string (L[a].extract 1 L[a].size)] W fun e w' => e = .returned (.tuple #[.string (behS th (wordAt L a)), .bool (behB th (wordAt L a))]) ∧ w' = W) := by
        intro W; rw [word_eq hlt]
        exact behind_any th (wordAt L a) W hh (by rw [← word_eq hlt]; simp; omega) (by rw [← word_eq hlt]; simp; omega)
      obtain ⟨b, off, cap, hv, hcap, hc⟩ := hR.some' (by omega)
      subst hv
      have x0 : w.cell? ⟨b, off + a, none⟩ = some (.string L[a]) := by have := hc a (by simpa using hlt); rw [this]; simp
      have hlb : b < w.heap.size := World.block_lt_of_cell? _ _ x0
      have HR : Hid (RowAt w (.slice (some ⟨b, off, none⟩) L.length cap) L.length (L.map Value.string)) := hR
      have hbs := behS_size th (wordAt L a)
      have y1 : (0 : Int) ≤ (a : Int) := by omega
      have y2 : (a : Int) < (L.length : Int) := by omega
      have y3 : ¬ (L.length : Int) ≤ (a : Int) := by omega
      have hp : 1 ≤ L[a].size := by omega
      clear hc hR
      go_enter Tryz.func141, Tryz.ntmps141
      go_wp2_with fail
      go_quiet ((go_at_call 175; exact Calls.quiet_of_same (HB.out _)))
      have hb2 : Below w.heap.size w (((w.alloc (.cells #[.int .i64 tn, .int .i64 (a : Int), .int .i64 ts, .string th] 172)).alloc (.cells #[.int .i64 0, .int .i64 0, .int .i64 0, .string { data := #[] }] 172)).drewN nq) := below_drewN ((below_alloc _ _).alloc (by simp) _) _
      have HZ : Hid (ZIn (((w.alloc (.cells #[.int .i64 tn, .int .i64 (a : Int), .int .i64 ts, .string th] 172)).alloc (.cells #[.int .i64 0, .int .i64 0, .int .i64 0, .string { data := #[] }] 172)).drewN nq) (w.heap.size + 1) 4) := by
        have h := ZIn.new (w.alloc (.cells #[.int .i64 tn, .int .i64 (a : Int), .int .i64 ts, .string th] 172)) #[.int .i64 0, .int .i64 0, .int .i64 0, .string { data := #[] }] 172
        have h2 := h.later (by simp) (below_drewN (Below.refl _ _) nq)
        unfold Hid; simpa using h2
      have HT : Hid (RkIn (((w.alloc (.cells #[.int .i64 tn, .int .i64 (a : Int), .int .i64 ts, .string th] 172)).alloc (.cells #[.int .i64 0, .int .i64 0, .int .i64 0, .string { data := #[] }] 172)).drewN nq) w.heap.size ⟨tn, (a : Int), ts, th⟩) := ⟨by simp [go_sem], by simp [go_sem], by simp [go_sem], by simp [go_sem]⟩
      have hzW : w.heap.size + 1 < (((w.alloc (.cells #[.int .i64 tn, .int .i64 (a : Int), .int .i64 ts, .string th] 172)).alloc (.cells #[.int .i64 0, .int .i64 0, .int .i64 0, .string { data := #[] }] 172)).drewN nq).heap.size := by simp
      generalize ((w.alloc (.cells #[.int .i64 tn, .int .i64 (a : Int), .int .i64 ts, .string th] 172)).alloc (.cells #[.int .i64 0, .int .i64 0, .int .i64 0, .string { data := #[] }] 172)).drewN nq = W at *
      have HB2 : Hid (Below w.heap.size w W) := hb2
      have HR2 : Hid (RowAt W (.slice (some ⟨b, off, none⟩) L.length cap) L.length (L.map Value.string)) := HR.out.later hb2
      obtain ⟨t0, t1, t2, t3⟩ := HT.out
      obtain ⟨⟨u0, r0⟩, f0⟩ := HZ.out 0 (by decide)
      obtain ⟨⟨u1, r1⟩, f1⟩ := HZ.out 1 (by decide)
      obtain ⟨⟨u2, r2⟩, f2⟩ := HZ.out 2 (by decide)
      obtain ⟨⟨u3, r3⟩, f3⟩ := HZ.out 3 (by decide)
      clear x0 HB hb2
      generalize behS th (wordAt L a) = rest at *
      cases hbh : behB th (wordAt L a)
      · rw [if_pos hbh] at HF
        go_wp2_with fail
        refine bodyPost_ret (v := .tuple #[tkV ⟨tn, (a : Int), ts, th⟩, .string ByteArray.empty]) (by simp [results, Tryz.results141, go_sem, r0, r1, r2, r3]; rfl) rfl ?_
        rw [HF.out]
        refine ⟨rfl, ?_⟩
        repeat (refine Below.setCell ?_ (by simp) _)
        exact HB2.out
      · rw [if_neg (by rw [hbh]; simp)] at HF
        have HSy : Hid (∀ (x : Int), x = ((a + 1 : Nat) : Int) → Calls Tryz.prog 140 #[.slice (some ⟨b, off, none⟩) L.length cap, .int .i64 x] W fun e w' => e = .returned (.tuple #[.string (saysL (L.drop (a + 1))).1, .int .i64 ((a + 1 + (saysL (L.drop (a + 1))).2 : Nat) : Int)]) ∧ w' = W) := by
          intro x hx; subst hx; exact says_any L _ (L.length - (a + 1)) (a + 1) W (by omega) hLn hL HR2.out
        have hsz := saysL_size (L.drop (a + 1)) (fun s h => (hL s (List.mem_of_mem_drop h)).2)
        have hfz := hearF_size L c (fun s h => (hL s h).2) hLn n ⟨tn, ((a + 1 + (saysL (L.drop (a + 1))).2 : Nat) : Int), c, rest⟩
        simp at hsz
        have HIH : Hid (∀ (x : Int) (W' : World), x = ((a + 1 + (saysL (L.drop (a + 1))).2 : Nat) : Int) → RowAt W' (.slice (some ⟨b, off, none⟩) L.length cap) L.length (L.map Value.string) → Calls Tryz.prog 141 #[.agg #[.int .i64 tn, .int .i64 x, .int .i64 c, .string rest], .slice (some ⟨b, off, none⟩) L.length cap, .int .i64 c] W' fun e w' => e = .returned (.tuple #[tkV (hearF L c n ⟨tn, ((a + 1 + (saysL (L.drop (a + 1))).2 : Nat) : Int), c, rest⟩).1, .string (hearF L c n ⟨tn, ((a + 1 + (saysL (L.drop (a + 1))).2 : Nat) : Int), c, rest⟩).2]) ∧ Below W'.heap.size W' w') := by
          intro x W' hx hR'; subst hx
          exact ih (by omega) ⟨tn, ((a + 1 + (saysL (L.drop (a + 1))).2 : Nat) : Int), c, rest⟩ (a + 1 + (saysL (L.drop (a + 1))).2) W' rfl (by omega) (by omega) (by show rest.size ≤ 1000000000000000000; omega) hR'
        clear ih hL
        generalize hearF L c n ⟨tn, ((a + 1 + (saysL (L.drop (a + 1))).2 : Nat) : Int), c, rest⟩ = V at *
        generalize saysL (L.drop (a + 1)) = S at *
        go_wp2_with fail
        refine (HSy.out _ (by push_cast; rfl)).mono ?_
        rintro e w3 ⟨rfl, hw3⟩
        subst hw3
        have hb4 := below_alloc w3 (.cells #[.int .i64 tn, .int .i64 ((a + 1 + S.2 : Nat) : Int), .int .i64 c, .string rest] 172)
        have HR4 : Hid (RowAt _ (.slice (some ⟨b, off, none⟩) L.length cap) L.length (L.map Value.string)) := HR2.out.later hb4
        have HZ4 : Hid (ZIn _ (w.heap.size + 1) 4) := HZ.out.later hzW hb4
        have HB4 : Hid (Below w.heap.size w _) := HB2.out.trans (hb4.mono HB2.out.size)
        clear t0 t1 t2 t3 r0 r1 r2 r3 f0 f1 f2 f3 hb4
        obtain ⟨t0, t1, t2, t3⟩ := HT.out
        go_wp2_with fail
        refine (HIH.out _ _ (by first | rfl | (push_cast; rfl)) HR4.out).mono ?_
        rintro e w5 ⟨rfl, hb5⟩
        have HZ5 := HZ4.out.later (by simp; omega) hb5
        have HB5 : Hid (Below w.heap.size w w5) := HB4.out.trans (hb5.mono HB4.out.size)
        have hz5 : w.heap.size + 1 < w5.heap.size := by have := hb5.size; simp at this; omega
        obtain ⟨⟨u0, r0⟩, f0⟩ := HZ5 0 (by decide)
        obtain ⟨⟨u1, r1⟩, f1⟩ := HZ5 1 (by decide)
        obtain ⟨⟨u2, r2⟩, f2⟩ := HZ5 2 (by decide)
        obtain ⟨⟨u3, r3⟩, f3⟩ := HZ5 3 (by decide)
        have q9 : ¬ 9223372036854775807 < S.1.size + V.2.size := by omega
        clear t0 t1 t2 t3 hb5 HZ5 HZ4 HR4 HB4
        go_wp2_with fail
        refine bodyPost_ret (v := .tuple #[tkV V.1, .string (S.1 ++ V.2)]) (by simp [results, Tryz.results141, go_sem, r0, r1, r2, r3, hz5]) rfl ?_
        rw [HF.out]
        refine ⟨rfl, Below.alloc ?_ (by simp; omega) _⟩
        repeat (refine Below.setCell ?_ (by simp) _)
        exact HB5.out
    · have hae : a = L.length := by omega
      rw [if_pos (by omega)] at HF
      obtain ⟨ad, cap, rfl, hcap⟩ := hR.form
      have q1 : (L.length : Int) ≤ (a : Int) := by omega
      clear hR hL ih hae hlt
      go_enter Tryz.func141, Tryz.ntmps141
      go_wp2_with fail
      refine bodyPost_ret (v := .tuple #[tkV ⟨tn, (a : Int), ts, th⟩, .string ByteArray.empty]) (by simp [results, Tryz.results141, go_sem]; rfl) rfl ?_
      rw [HF.out]
      exact ⟨rfl, (below_alloc _ _).alloc (by simp) _⟩
end Go.Proofs.YtdajolpoiffimaaGreatDoor

namespace Go.Proofs.YtdajolpoiffimaaGreatDoor
open Go.RowKit

theorem own_setc {w : World} {base g cap n i size : Nat} {e : TypeId} {xs : List Value} (h : w.ownsRow base e size (.slice (some ⟨g, 0, none⟩) n cap) n xs) (u : Value) : (w.setCell ⟨g, i, none⟩ u).ownsRow base e size (.slice (some ⟨g, 0, none⟩) n cap) n (xs.set i u) := by
  have hx := h.1
  rcases h.2 with ⟨h2, _⟩ | ⟨g', cap', cur, hv, hb, hg, hc, hm, hs, ht⟩
  · cases h2
  · cases hv
    refine ⟨by simpa using hx, Or.inr ⟨g, cap, cur.setIfInBounds i u, rfl, hb, heap_setCell_same _ _ _ _ _ _ hg, hc, hm, by simpa using hs, ?_⟩⟩
    rw [← ht, Array.toList_setIfInBounds, List.take_set]
theorem flat_set (l : List Bx.Tk) (k : Nat) (t : Bx.Tk) (h : k < l.length) : (l.set k t).flatMap tkC = ((((l.flatMap tkC).set (k * 4) (.int .i64 t.num)).set (k * 4 + 1) (.int .i64 t.at')).set (k * 4 + 2) (.int .i64 t.since)).set (k * 4 + 3) (.string t.heard) := by
  induction l generalizing k with
  | nil => simp at h
  | cons x r ih =>
    cases k with
    | zero => simp [tkC]
    | succ k =>
      have := ih k (by simpa using h)
      rw [List.set_cons_succ, List.flatMap_cons, this, List.flatMap_cons]
      rw [show (k + 1) * 4 = k * 4 + 1 + 1 + 1 + 1 by omega, show k * 4 + 1 + 1 + 1 + 1 + 1 = (k * 4 + 1) + 1 + 1 + 1 + 1 by omega, show k * 4 + 1 + 1 + 1 + 1 + 2 = (k * 4 + 2) + 1 + 1 + 1 + 1 by omega, show k * 4 + 1 + 1 + 1 + 1 + 3 = (k * 4 + 3) + 1 + 1 + 1 + 1 by omega]
      simp [tkC, List.set_cons_succ]
/-- One talk is another. -/
theorem BoxIn.tset {W : World} {B g cap k : Nat} {b : Bx.Bo} {sl en : Value} (h : BoxIn W B b sl en (.slice (some ⟨g, 0, none⟩) b.talks.length cap)) (hk : k < b.talks.length) (t : Bx.Tk) :
    BoxIn ((((W.setCell ⟨g, k * 4, none⟩ (.int .i64 t.num)).setCell ⟨g, k * 4 + 1, none⟩ (.int .i64 t.at')).setCell ⟨g, k * 4 + 2, none⟩ (.int .i64 t.since)).setCell ⟨g, k * 4 + 3, none⟩ (.string t.heard)) B { b with talks := b.talks.set k t } sl en (.slice (some ⟨g, 0, none⟩) b.talks.length cap) := by
  have hne : B ≠ g := by
    have := (h.tk.lt g rfl).1
    omega
  have tyg : Typed W g 172 := by
    rcases h.tk.2 with ⟨h2, _⟩ | ⟨g', cap', cur, hv, _, hh, _⟩
    · cases h2
    · cases hv; exact ⟨_, _, hh⟩
  have t1 := tyg.setCell g (k * 4) (.int .i64 t.num)
  have t2 := t1.setCell g (k * 4 + 1) (.int .i64 t.at')
  have t3 := t2.setCell g (k * 4 + 2) (.int .i64 t.since)
  obtain ⟨c0, c1, c2, c3, c4, c5, c6, c7, c8, f, ty, rows, tko⟩ := h
  refine ⟨?_, ?_, ?_, ?_, ?_, ?_, ?_, ?_, ?_, fun j hj => ?_, (((ty.setCell _ _ _).setCell _ _ _).setCell _ _ _).setCell _ _ _, (((rows.set tyg (by decide) (by decide) _ _).set t1 (by decide) (by decide) _ _).set t2 (by decide) (by decide) _ _).set t3 (by decide) (by decide) _ _, ?_⟩
  case refine_10 => simp [go_sem, f j hj]
  case refine_11 =>
    show World.ownsRow _ (B + 1) 172 4 _ (b.talks.set k t).length ((b.talks.set k t).flatMap tkC)
    rw [List.length_set, flat_set b.talks k t hk]
    exact own_setc (own_setc (own_setc (own_setc tko _) _) _) _
  all_goals simp [go_sem, c0, c1, c2, c3, c4, c5, c6, c7, c8]
theorem row_frozen {W : World} {base g n cap size : Nat} {e : TypeId} {xs : List Value} (h : W.ownsRow base e size (.slice (some ⟨g, 0, none⟩) n cap) n xs) (j : Nat) : W.frozen? ⟨g, j, none⟩ = false := by
  rcases h.2 with ⟨h2, _⟩ | ⟨g', cap', cur, hv, _, hg, _⟩
  · cases h2
  · cases hv; unfold World.frozen?; rw [hg]; simp
set_option maxRecDepth 10000 in
set_option maxHeartbeats 3000000 in
theorem rfeed_any (b : Bx.Bo) (B : Nat) (n : Int) (x : ByteArray) (sl en tk : Value) (w : World) (hO : BoOk b) (hx : x.size ≤ maxLen) (hH : ∀ t ∈ b.talks, t.heard.size ≤ 100000000000000000) (hA : ¬ talkOf b.talks n < 0 → (tkAt b (talkOf b.talks n).toNat).at' ≤ (startL b n).length) (hB : BoxIn w B b sl en tk) :
    Calls Tryz.prog 93 #[.pointer (some ⟨B, 0, none⟩), .int .i64 n, .string x] w fun e w' => (∃ sl' en' tk', e = .returned (.tuple #[.string (feedP b n x).2.1, .int .i64 (feedP b n x).2.2]) ∧ BoxIn w' B (feedP b n x).1 sl' en' tk' ∧ NewTk w tk tk') ∧ TwoBy w w' B tk.ownBlock := by
  unfold maxLen at hx
  obtain ⟨ad, cap, rfl, hcap⟩ := hB.rows.sl.form
  obtain ⟨ad2, cap2, rfl, hcap2⟩ := hB.rows.en.form
  obtain ⟨ad3, cap3, rfl, hcap3⟩ := hB.tkr.form
  have HB : Hid (BoxIn w B b (.slice ad b.now.slots.length cap) (.slice ad2 b.now.ends.length cap2) (.slice ad3 b.talks.length cap3)) := hB
  have HO : Hid (BoOk b) := hO
  have HH : Hid (∀ t ∈ b.talks, t.heard.size ≤ 100000000000000000) := hH
  have hs8 := hO.st.sl
  have ht100 := hO.tks
  have HP : Hid (feedP b n x = if 40 < x.size then (b, ByteArray.empty, 1)
    else if Bx.find b.now n < 0 then (b, ByteArray.empty, 8)
    else if talkOf b.talks n < 0 then (b, ByteArray.empty, 9)
    else if ((startL b n).length : Int) ≤ (feedH b n x).1.at' then
      (if b.room < (b.text.size : Int) + (Bx.frames [chD n]).size then (b, ByteArray.empty, 13) else ({ addB b [chD n] with talks := hushL (Bx.told b.now [chD n]) b.talks }, (feedH b n x).2, 0))
    else ({ b with talks := b.talks.set (talkOf b.talks n).toNat (feedH b n x).1 }, (feedH b n x).2, 0)) := rfl
  have HA : Hid (¬ talkOf b.talks n < 0 → (tkAt b (talkOf b.talks n).toNat).at' ≤ (startL b n).length) := hA
  clear hB hO hH hA
  by_cases h40 : 40 < x.size
  · have HP' : Hid (feedP b n x = (b, ByteArray.empty, 1)) := by unfold Hid; rw [HP.out, if_pos h40]
    have z0 : (40 : Int) < (x.size : Int) := by omega
    go_enter Tryz.func93, Tryz.ntmps93
    go_wp2_with fail
    go_ret2
    rw [HP'.out]
    exact ⟨⟨rfl, _, _, _, HB.out, Or.inl rfl⟩, TwoBy.of_grow (grow_refl _ _) _⟩
  rw [if_neg h40] at HP
  have z0 : ¬ (40 : Int) < (x.size : Int) := by omega
  go_enter Tryz.func93, Tryz.ntmps93
  go_wp2_with fail
  refine (bstate_any b B _ _ _ _ HB.out).mono ?_
  rintro e w2 ⟨rfl, hb2⟩
  have hb3 := below_alloc w2 (stO b.now (.slice ad b.now.slots.length cap) (.slice ad2 b.now.ends.length cap2))
  have HB3 : Hid (BoxIn (w2.alloc (stO b.now (.slice ad b.now.slots.length cap) (.slice ad2 b.now.ends.length cap2))) B b (.slice ad b.now.slots.length cap) (.slice ad2 b.now.ends.length cap2) (.slice ad3 b.talks.length cap3)) := (HB.out.later hb2).later hb3
  have HG3 : Hid (Below w.heap.size w (w2.alloc (stO b.now (.slice ad b.now.slots.length cap) (.slice ad2 b.now.ends.length cap2)))) := hb2.trans (hb3.mono hb2.size)
  have HI : Hid (StIn (w2.alloc (stO b.now (.slice ad b.now.slots.length cap) (.slice ad2 b.now.ends.length cap2))) w2.heap.size b.now (.slice ad b.now.slots.length cap) (.slice ad2 b.now.ends.length cap2)) := StIn.new w2 b.now _ _
  go_upto_region 4 with fail
  generalize w2.alloc (stO b.now (.slice ad b.now.slots.length cap) (.slice ad2 b.now.ends.length cap2)) = W at *
  generalize w2.heap.size = sq at *
  clear hb2 hb3 HB
  obtain ⟨d0, d1, d2, d3, d4⟩ := HI.out
  go_wp2_with fail
  refine (find_any b.now n _ _ _ (by omega) HB3.out.rows).mono ?_
  rintro e w4 ⟨rfl, hb4⟩
  have HB4 : Hid (BoxIn w4 B b (.slice ad b.now.slots.length cap) (.slice ad2 b.now.ends.length cap2) (.slice ad3 b.talks.length cap3)) := HB3.out.later hb4
  have HI4 : Hid (StIn w4 sq b.now (.slice ad b.now.slots.length cap) (.slice ad2 b.now.ends.length cap2)) := HI.out.later hb4
  have HG4 : Hid (Below w.heap.size w w4) := HG3.out.trans (hb4.mono HG3.out.size)
  clear d0 d1 d2 d3 d4 HB3 HI HG3 hb4
  by_cases hneg : Bx.find b.now n < 0
  · have HP' : Hid (feedP b n x = (b, ByteArray.empty, 8)) := by unfold Hid; rw [HP.out, if_pos hneg]
    go_wp2_with fail
    go_ret2
    rw [HP'.out]
    exact ⟨⟨_, _, _, rfl, HB4.out, Or.inl rfl⟩, TwoBy.of_grow (grow_of_below HG4.out _) _⟩
  rw [if_neg hneg] at HP
  have hi := Bx.find_lt b.now n hneg
  have hnum := find_num hneg
  have hSx := HO.out.st.each _ (Bx.slAt_mem hi)
  have hn2 := HO.out.st.n2
  obtain ⟨j, hjj⟩ : ∃ j : Nat, (Bx.slAt b.now (Bx.find b.now n).toNat).line = (j : Int) + 1 := ⟨((Bx.slAt b.now (Bx.find b.now n).toNat).line - 1).toNat, by omega⟩
  have Hln : Hid ((Bx.slAt b.now (Bx.find b.now n).toNat).line = (j : Int) + 1) := hjj
  have hj : j < tn b.now.tab := by omega
  have HL : Hid (startL b n = stepsS b.now j) := by unfold Hid startL; rw [hjj, show ((j : Int) + 1 - 1).toNat = j by omega]
  have hnb : 1 ≤ n ∧ n < 10000 := by rw [hnum] at hSx; omega
  clear hSx hjj hnum
  obtain ⟨i, hiF⟩ : ∃ i : Nat, Bx.find b.now n = i := Int.eq_ofNat_of_zero_le (by omega)
  rw [hiF] at hi Hln ⊢
  simp only [Int.toNat_natCast] at hi Hln
  clear hneg hiF
  have y0 : ¬ (i : Int) < 0 := by omega
  go_wp2_with fail
  refine (talk_any b B n _ _ _ _ (by omega) HB4.out).mono ?_
  rintro e w5 ⟨rfl, hw5⟩
  subst hw5
  have htb := talkOf_bd b.talks n
  by_cases htn : talkOf b.talks n < 0
  · have HP' : Hid (feedP b n x = (b, ByteArray.empty, 9)) := by unfold Hid; rw [HP.out, if_pos htn]
    go_wp2_with fail
    go_ret2
    rw [HP'.out]
    exact ⟨⟨_, _, _, rfl, HB4.out, Or.inl rfl⟩, TwoBy.of_grow (grow_of_below HG4.out _) _⟩
  rw [if_neg htn] at HP
  have hat := HA.out (by omega)
  obtain ⟨k, hkF⟩ : ∃ k : Nat, talkOf b.talks n = k := Int.eq_ofNat_of_zero_le (by omega)
  have HFd : Hid (feedH b n x = hearF (stepsS b.now j) b.now.clock (stepsS b.now j).length (more (tkAt b k) x)) := by unfold Hid feedH; rw [HL.out, hkF]; rfl
  rw [hkF] at HP hat htb ⊢
  simp only [Int.toNat_natCast] at HP hat
  rw [HL.out] at HP hat
  have hkl : k < b.talks.length := by omega
  have y1 : ¬ (k : Int) < 0 := by omega
  clear htn hkF HA HL
  obtain ⟨d0, d1, d2, d3, d4⟩ := HI4.out
  go_wp2_with fail
  refine (bsteps_any b.now i j _ _ _ _ HO.out.st.tab hi (by omega) Hln.out hj HB4.out.rows).mono ?_
  rintro e w6 ⟨⟨v6, rfl, hR6⟩, hb6⟩
  obtain ⟨ad6, cap6, rfl, _⟩ := hR6.form
  have HB6 : Hid (BoxIn w6 B b (.slice ad b.now.slots.length cap) (.slice ad2 b.now.ends.length cap2) (.slice ad3 b.talks.length cap3)) := HB4.out.later hb6
  have HI6 : Hid (StIn w6 sq b.now (.slice ad b.now.slots.length cap) (.slice ad2 b.now.ends.length cap2)) := HI4.out.later hb6
  have HG6 : Hid (Below w.heap.size w w6) := HG4.out.trans (hb6.mono HG4.out.size)
  have HR6 : Hid (RowAt w6 (.slice ad6 (stepsS b.now j).length cap6) (stepsS b.now j).length ((stepsS b.now j).map Value.string)) := hR6
  clear d0 d1 d2 d3 d4 HB4 HI4 HG4 hb6 hR6
  have hLP := HO.out.st.tab.lines.2.2 j hj
  have hst := step_sz hLP
  have hsl := stepsOf_len hLP
  change ∀ s ∈ stepsS b.now j, 2 ≤ s.size ∧ s.size ≤ 9 at hst
  change 1 ≤ (stepsS b.now j).length ∧ (stepsS b.now j).length ≤ 5 at hsl
  have hab := HO.out.ats _ (List.getElem_mem hkl)
  have hhd := HH.out _ (List.getElem_mem hkl)
  rw [tkAt_eq b k hkl] at hab hhd
  obtain ⟨bt, offt, capt, hvt, _, hct⟩ := HB6.out.tkr.1.some' (by omega)
  cases hvt
  have x0 : w6.cell? ⟨bt, offt + k * 4, none⟩ = some (.int .i64 (tkAt b k).num) := by rw [← tkAt_eq b k hkl]; exact RowAt.cell tkC_len hct k hkl 0 (by decide)
  have x1 : w6.cell? ⟨bt, offt + k * 4 + 1, none⟩ = some (.int .i64 (tkAt b k).at') := by rw [← tkAt_eq b k hkl]; exact RowAt.cell tkC_len hct k hkl 1 (by decide)
  have x2 : w6.cell? ⟨bt, offt + k * 4 + 2, none⟩ = some (.int .i64 (tkAt b k).since) := by rw [← tkAt_eq b k hkl]; exact RowAt.cell tkC_len hct k hkl 2 (by decide)
  have x3 : w6.cell? ⟨bt, offt + k * 4 + 3, none⟩ = some (.string (tkAt b k).heard) := by rw [← tkAt_eq b k hkl]; exact RowAt.cell tkC_len hct k hkl 3 (by decide)
  have c8 := HB6.out.c8
  have hlB : B < w6.heap.size := HB6.out.ty.lt
  have d1 := HI6.out.c1
  have hls : sq < w6.heap.size := World.block_lt_of_cell? _ _ d1
  have z1 : (0 : Int) ≤ (k : Int) := by omega
  have z2 : (k : Int) < (b.talks.length : Int) := by omega
  have q8 : ¬ 9223372036854775807 < (tkAt b k).heard.size + x.size := by omega
  have HHe : Hid (∀ W' : World, RowAt W' (.slice ad6 (stepsS b.now j).length cap6) (stepsS b.now j).length ((stepsS b.now j).map Value.string) → Calls Tryz.prog 141 #[.agg #[.int .i64 (tkAt b k).num, .int .i64 (tkAt b k).at', .int .i64 (tkAt b k).since, .string ((tkAt b k).heard ++ x)], .slice ad6 (stepsS b.now j).length cap6, .int .i64 b.now.clock] W' fun e w' => e = .returned (.tuple #[tkV (feedH b n x).1, .string (feedH b n x).2]) ∧ Below W'.heap.size W' w') := by
    intro W' hR'
    rw [HFd.out]
    exact hears_any (stepsS b.now j) _ b.now.clock (by omega) hst (stepsS b.now j).length (by omega) (more (tkAt b k) x) (tkAt b k).at'.toNat W' (by show (tkAt b k).at' = _; omega) (by omega) (by omega) (by show ((tkAt b k).heard ++ x).size ≤ _; rw [ByteArray.size_append]; omega) hR'
  clear hct hst HFd hLP
  generalize feedH b n x = R at *
  generalize tkAt b k = t at *
  generalize stepsS b.now j = L at *
  have hb7 := below_alloc w6 (.cells #[.int .i64 t.num, .int .i64 t.at', .int .i64 t.since, .string (t.heard ++ x)] 172)
  have HR7 : Hid (RowAt _ (.slice ad6 L.length cap6) L.length (L.map Value.string)) := HR6.out.later hb7
  have hZ7 := ZIn.new w6 #[.int .i64 t.num, .int .i64 t.at', .int .i64 t.since, .string (t.heard ++ x)] 172
  go_wp2_with fail
  refine (HHe.out _ HR7.out).mono ?_
  rintro e w8 ⟨rfl, hb8⟩
  have hbY : Below w6.heap.size w6 w8 := hb7.trans (hb8.mono (by simp))
  have hz8 : w6.heap.size < w8.heap.size := by have := hb8.size; simp at this; omega
  obtain ⟨⟨u0, r0⟩, f0⟩ := (hZ7.later (by simp) hb8) 0 (by simp)
  obtain ⟨⟨u1, r1⟩, f1⟩ := (hZ7.later (by simp) hb8) 1 (by simp)
  obtain ⟨⟨u2, r2⟩, f2⟩ := (hZ7.later (by simp) hb8) 2 (by simp)
  obtain ⟨⟨u3, r3⟩, f3⟩ := (hZ7.later (by simp) hb8) 3 (by simp)
  have hbW : Below w6.heap.size w6 ((((w8.setCell ⟨w6.heap.size, 0, none⟩ (.int .i64 R.1.num)).setCell ⟨w6.heap.size, 1, none⟩ (.int .i64 R.1.at')).setCell ⟨w6.heap.size, 2, none⟩ (.int .i64 R.1.since)).setCell ⟨w6.heap.size, 3, none⟩ (.string R.1.heard)) := (((hbY.setCell (Nat.le_refl _) _).setCell (Nat.le_refl _) _).setCell (Nat.le_refl _) _).setCell (Nat.le_refl _) _
  have hT9 : RkIn ((((w8.setCell ⟨w6.heap.size, 0, none⟩ (.int .i64 R.1.num)).setCell ⟨w6.heap.size, 1, none⟩ (.int .i64 R.1.at')).setCell ⟨w6.heap.size, 2, none⟩ (.int .i64 R.1.since)).setCell ⟨w6.heap.size, 3, none⟩ (.string R.1.heard)) w6.heap.size R.1 := by
    refine ⟨?_, ?_, ?_, ?_⟩ <;> simp [go_sem, r0, r1, r2, r3]
  go_upto_region 14 with fail
  clear x0 x1 x2 x3 c8 d1 r0 r1 r2 r3 f0 f1 f2 f3 hZ7 hb7 hb8 hbY
  generalize (((w8.setCell ⟨w6.heap.size, 0, none⟩ (.int .i64 R.1.num)).setCell ⟨w6.heap.size, 1, none⟩ (.int .i64 R.1.at')).setCell ⟨w6.heap.size, 2, none⟩ (.int .i64 R.1.since)).setCell ⟨w6.heap.size, 3, none⟩ (.string R.1.heard) = W9 at *
  have HB9 : Hid (BoxIn W9 B b (.slice ad b.now.slots.length cap) (.slice ad2 b.now.ends.length cap2) (.slice (some ⟨bt, offt, none⟩) b.talks.length cap3)) := HB6.out.later hbW
  have HG9 : Hid (Below w.heap.size w W9) := HG6.out.trans (hbW.mono HG6.out.size)
  obtain ⟨t0, t1, t2, t3⟩ := hT9
  generalize w6.heap.size = tq at *
  by_cases hend : (L.length : Int) ≤ R.1.at'
  · rw [if_pos hend] at HP
    have hCk : ∀ c ∈ [chD n], ChOk c := by intro c hc; simp at hc; subst hc; exact chN_ok (by decide) (by decide) (by omega) (by omega)
    have hbD := below_alloc W9 (chO (chD n))
    have hRD := ch_row W9 (chD n)
    have hBD := HB9.out.later hbD
    have HGD : Hid (w.grownBy (W9.alloc (chO (chD n))) (some B)) := grow_of_below (HG9.out.trans (hbD.mono HG9.out.size)) _
    by_cases hF : b.room < (b.text.size : Int) + (Bx.frames [chD n]).size
    · have HP' : Hid (feedP b n x = (b, ByteArray.empty, 13)) := by unfold Hid; rw [HP.out, if_pos hF]
      go_wp2_with fail
      refine (add_no b B _ _ _ _ [chD n] _ (by simp) hCk HO.out.txt hF hRD hBD).mono ?_
      rintro e w10 ⟨rfl, hb10⟩
      go_wp2_with fail
      go_ret2
      rw [HP'.out]
      exact ⟨⟨_, _, _, rfl, hBD.later hb10, Or.inl rfl⟩, TwoBy.of_grow (grow_trans HGD.out (grow_of_below hb10 _)) _⟩
    · have HP' : Hid (feedP b n x = ({ addB b [chD n] with talks := hushL (Bx.told b.now [chD n]) b.talks }, R.2, 0)) := by unfold Hid; rw [HP.out, if_neg hF]
      go_wp2_with fail
      refine (add_yes b B _ _ _ _ [chD n] _ HO.out.st (by simp) hCk HO.out.txt (by omega) hRD hBD).mono ?_
      rintro e w10 ⟨rfl, ⟨sl8, en8, hB8⟩, hg8⟩
      have hsl8 : (Bx.told b.now [chD n]).slots.length ≤ 8 := (Bx.told_ok HO.out.st _).sl
      go_wp2_with fail
      refine (hush_any (addB b [chD n]) B _ _ _ _ (by show (Bx.told b.now [chD n]).slots.length ≤ 10000; omega) (by show b.talks.length ≤ 1000; omega) hB8).mono ?_
      rintro e w11 ⟨rfl, ⟨tk9, hB9, hn9⟩, hg9⟩
      go_wp2_with fail
      go_ret2
      rw [HP'.out]
      exact ⟨⟨_, _, _, rfl, hB9, hn9.grow (grow_trans HGD.out hg8).size⟩, TwoBy.of_grow (grow_trans (grow_trans HGD.out hg8) hg9) _⟩
  · rw [if_neg hend] at HP
    obtain ⟨g, capg, hvg, hge, hgl⟩ := HB9.out.tk.form (by omega)
    cases hvg
    have HN : Hid (BoxIn _ B { b with talks := b.talks.set k R.1 } (.slice ad b.now.slots.length cap) (.slice ad2 b.now.ends.length cap2) (.slice (some ⟨bt, 0, none⟩) b.talks.length cap3)) := (HB9.out.tset hkl R.1).later (Below.refl _ _).drew
    obtain ⟨_, _, _, hvt, _, hct⟩ := HB9.out.tkr.1.some' (by omega)
    cases hvt
    have x0 : W9.cell? ⟨bt, k * 4, none⟩ = some (.int .i64 b.talks[k].num) := by have := RowAt.cell tkC_len hct k hkl 0 (by decide); simpa [tkC] using this
    have x1 : W9.cell? ⟨bt, k * 4 + 1, none⟩ = some (.int .i64 b.talks[k].at') := by have := RowAt.cell tkC_len hct k hkl 1 (by decide); simpa [tkC] using this
    have x2 : W9.cell? ⟨bt, k * 4 + 2, none⟩ = some (.int .i64 b.talks[k].since) := by have := RowAt.cell tkC_len hct k hkl 2 (by decide); simpa [tkC] using this
    have x3 : W9.cell? ⟨bt, k * 4 + 3, none⟩ = some (.string b.talks[k].heard) := by have := RowAt.cell tkC_len hct k hkl 3 (by decide); simpa [tkC] using this
    have g0 := row_frozen HB9.out.tk (k * 4)
    have g1 := row_frozen HB9.out.tk (k * 4 + 1)
    have g2 := row_frozen HB9.out.tk (k * 4 + 2)
    have g3 := row_frozen HB9.out.tk (k * 4 + 3)
    have c8 := HB9.out.c8
    clear hct
    have HP' : Hid (feedP b n x = ({ b with talks := b.talks.set k R.1 }, R.2, 0)) := HP.out
    have HTw : Hid (TwoBy w _ B (some bt)) := (TwoBy.of_grow (grow_of_below HG9.out _) _).trans ((TwoBy.of_grow2 (grow_set (grow_set (grow_set (grow_set (grow_refl W9 (some bt)) (k * 4) (.int .i64 R.1.num)) (k * 4 + 1) (.int .i64 R.1.at')) (k * 4 + 2) (.int .i64 R.1.since)) (k * 4 + 3) (.string R.1.heard)) B).trans (TwoBy.of_grow (grow_of_below (Below.refl _ _).drew _) _))
    go_wp2_with fail
    go_region
    go_wp2_with fail
    go_ret2
    rw [HP'.out]
    first | exact ⟨⟨_, _, _, rfl, HN.out, Or.inl rfl⟩, HTw.out⟩ | exact ⟨⟨rfl, _, _, _, HN.out, Or.inl rfl⟩, HTw.out⟩
end Go.Proofs.YtdajolpoiffimaaGreatDoor
