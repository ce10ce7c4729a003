/-
  KStep, KStep2, KReop, KAgain.
-/
import Derived.Test.YtdajolpoiffimabDoorG8
import Derived.Test.YtdajolpoiffimabDoorG10
import Derived.Test.YtdajolpoiffimabDoorG11

namespace Go.Proofs.YtdajolpoiffimabDoor
open Go.RowKit

/-- All blocks but two are as they were. -/
structure Far2 (w w' : World) (P B : Nat) : Prop where
  sz : w.heap.size ≤ w'.heap.size
  blk : ∀ k, k < w.heap.size → k ≠ P → k ≠ B → w'.heap[k]? = w.heap[k]?
theorem Far2.refl (w : World) (P B : Nat) : Far2 w w P B := ⟨Nat.le_refl _, fun _ _ _ _ => rfl⟩
theorem Far2.trans {w w1 w2 : World} {P B : Nat} (h : Far2 w w1 P B) (h2 : Far2 w1 w2 P B) : Far2 w w2 P B := ⟨Nat.le_trans h.sz h2.sz, fun k hk h3 h4 => (h2.blk k (Nat.lt_of_lt_of_le hk h.sz) h3 h4).trans (h.blk k hk h3 h4)⟩
theorem Far2.below {w w' : World} {P B : Nat} (h : Below w.heap.size w w') : Far2 w w' P B := ⟨h.size, fun k hk _ _ => h.block k hk⟩
theorem Far2.grow {w w' : World} {P B : Nat} (h : w.grownBy w' (some B)) : Far2 w w' P B := ⟨h.size, fun k hk _ h4 => h.block k hk (fun e => h4 (by cases e; rfl))⟩
theorem Far2.set {w : World} {P B : Nat} (j : Nat) (v : Value) : Far2 w (w.setCell ⟨P, j, none⟩ v) P B := by
  refine ⟨by simp [World.setCell], fun k hk h3 h4 => ?_⟩
  have hg : w.grownBy (w.setCell ⟨P, j, none⟩ v) (some P) := grow_set (grow_of_below (Below.refl _ _) _) _ _
  exact hg.block k hk (fun e => h3 (by cases e; rfl))
theorem Cl.far2 {w w' : World} {P B q : Nat} {t : TypeId} {cs : List Value} (h : Cl w q t cs) (hf : Far2 w w' P B) (h1 : q ≠ P) (h2 : q ≠ B) : Cl w' q t cs := by
  have e := hf.blk q h.ty.lt h1 h2
  refine ⟨fun j v hj => ?_, fun j hj => ?_, ?_⟩
  · rw [World.cell?_of_block (a := ⟨q, j, none⟩) e]; exact h.c j v hj
  · rw [World.frozen?_of_block (a := ⟨q, j, none⟩) e]; exact h.f j hj
  · obtain ⟨cur, fr, hc⟩ := h.ty; exact ⟨cur, fr, e.trans hc⟩
def fedS (s : ByteArray) : ByteArray := if 40 < s.size then s.extract 0 40 else s
theorem fedS_le (s : ByteArray) : (fedS s).size ≤ 40 := by unfold fedS; split <;> (try simp) <;> omega
theorem kig {b : Px.Bo} {l r : Int} {t : ByteArray} {c g : Int} (h : Px.KI b l r t c g) : 0 ≤ g ∧ g ≤ 9999 := by
  have h1 : 1 ≤ b.st.next := h.may.n1
  have h2 : b.st.next ≤ 10000 := h.may.n2
  have := h.nxt
  omega
theorem kil {b : Px.Bo} {l r : Int} {t : ByteArray} {c g : Int} (h : Px.KI b l r t c g) : b.log.size ≤ 10000 ∧ 1 ≤ l ∧ l ≤ 4 ∧ mayB l r = true ∧ b.log.size ≤ 4000 := by
  have := h.log
  exact ⟨by omega, by omega, by omega, decide_eq_true (by omega), by omega⟩
/-- What a Tick of some minutes on makes. -/
noncomputable def onS (c g n : Int) (b : Px.Bo) : Int × Int × Px.Bo := if 4223371679 < c + 1 + pk n 1500 then (c, g, b) else if (Px.tickB b (c + 1 + pk n 1500)).2.2 = 0 then (c + 1 + pk n 1500, g + (Px.tickB b (c + 1 + pk n 1500)).2.1, (Px.tickB b (c + 1 + pk n 1500)).1) else (c, g, b)
end Go.Proofs.YtdajolpoiffimabDoor

namespace Go.Proofs.YtdajolpoiffimabDoor
open Go.RowKit

theorem far_start {b : Px.Bo} {l r : Int} {t : ByteArray} {c g : Int} (h : Px.KI b l r t c g) (n : Int) : (Px.startB b n).2.2 = 13 → r < ((Px.startB b n).1.log.size : Int) + 18 := by
  intro q
  have e : (Px.startB b n).1 = b := by
    have hs0 : (Px.startP b.st n).2 = 0 → Px.Ok (Px.startP b.st n).1 := Px.startP_ok h.ok n
    rcases Px.start_adv h.ok n hs0 with ⟨_, e, _⟩ | ⟨e, _⟩
    · exact e
    · rw [e] at q; exact absurd q (by decide)
  rcases Px.start_codes b n with q0 | ⟨_, q0⟩ | ⟨_, q1⟩
  · omega
  · omega
  · rw [e, ← h.room]; exact q1
theorem far_feed {b : Px.Bo} {l r : Int} {t : ByteArray} {c g : Int} (h : Px.KI b l r t c g) (n : Int) (x : ByteArray) (hx : x.size ≤ 40) : (Px.feedB b n x).2.2 = 13 → r < ((Px.feedB b n x).1.log.size : Int) + 9 := by
  intro q
  have e : (Px.feedB b n x).1 = b := by
    rcases Px.feed_adv h.ok n x with ⟨_, e, _⟩ | ⟨e, _⟩
    · exact e
    · rw [e] at q; exact absurd q (by decide)
  rcases Px.feed_codes b n x hx with q0 | q0 | q0 | ⟨_, q1⟩
  · omega
  · omega
  · omega
  · rw [e, ← h.room]; exact q1
theorem far_cancel {b : Px.Bo} {l r : Int} {t : ByteArray} {c g : Int} (h : Px.KI b l r t c g) (n : Int) : (Px.cancelB b n).2 = 13 → r < ((Px.cancelB b n).1.log.size : Int) + 9 := by
  intro q
  have e : (Px.cancelB b n).1 = b := by
    rcases Px.cancel_adv h.ok n with ⟨_, e⟩ | ⟨e, _⟩
    · exact e
    · rw [e] at q; exact absurd q (by decide)
  rcases Px.cancel_codes b n with q0 | q0 | ⟨_, q1⟩
  · omega
  · omega
  · rw [e, ← h.room]; exact q1
theorem open_same {b : Px.Bo} {l r : Int} {t : ByteArray} {c g : Int} (h : Px.KI b l r t c g) {s : Px.St} {q : ByteArray} {n : Int} (hs : Bx.Says true Bx.first b.log (Px.abs s) q) (hn : n + (q.size : Int) = (b.log.size : Int)) : n = (b.log.size : Int) ∧ Px.openB l r s = Px.openB l r b.st := by
  obtain ⟨e1, e2⟩ := hs.uniq h.right
  refine ⟨?_, Px.openB_of e1⟩
  rw [e2] at hn
  have : (ByteArray.empty).size = 0 := rfl
  rw [this] at hn
  omega
/-- What a step makes: the clock, how many numbers were given, the box. -/
noncomputable def stp (l r k n : Int) (s : ByteArray) (c g : Int) (b : Px.Bo) : Int × Int × Px.Bo :=
  if k = 1 then onS c g n b else if k = 2 then (c, g, (Px.startB b (1 + pk n (g + 1))).1) else if k = 3 then (c, g, (Px.feedB b (1 + pk n (g + 1)) (fedS s)).1)
  else if k = 4 then (c, g, (Px.cancelB b (1 + pk n (g + 1))).1) else if k = 5 then (c, g, Px.compB b) else if k = 6 then (c, g, Px.openB l r b.st) else (c, g, b)
theorem KI.on {b : Px.Bo} {l r : Int} {t : ByteArray} {c g : Int} (h : Px.KI b l r t c g) (n : Int) (c0 : 0 ≤ c) (c1 : c ≤ 4223371679) : Px.KI (onS c g n b).2.2 l r t (onS c g n b).1 (onS c g n b).2.1 ∧ 0 ≤ (onS c g n b).1 ∧ (onS c g n b).1 ≤ 4223371679 := by
  have hp := pk_bd n 1500 (by decide)
  unfold onS
  by_cases h1 : 4223371679 < c + 1 + pk n 1500
  · rw [if_pos h1]; exact ⟨h, c0, c1⟩
  · rw [if_neg h1]
    by_cases h2 : (Px.tickB b (c + 1 + pk n 1500)).2.2 = 0
    · rw [if_pos h2]
      obtain ⟨q1, q2⟩ := h.tick _ h2
      exact ⟨by rw [q1]; exact q2, by show 0 ≤ c + 1 + pk n 1500; omega, by show c + 1 + pk n 1500 ≤ 4223371679; omega⟩
    · rw [if_neg h2]; exact ⟨h, c0, c1⟩
theorem KI.step {b : Px.Bo} {l r : Int} {t : ByteArray} {c g : Int} (h : Px.KI b l r t c g) (k n : Int) (s : ByteArray) (c0 : 0 ≤ c) (c1 : c ≤ 4223371679) :
    Px.KI (stp l r k n s c g b).2.2 l r t (stp l r k n s c g b).1 (stp l r k n s c g b).2.1 ∧ 0 ≤ (stp l r k n s c g b).1 ∧ (stp l r k n s c g b).1 ≤ 4223371679 := by
  unfold stp
  by_cases h1 : k = 1
  · rw [if_pos h1]; exact KI.on h n c0 c1
  rw [if_neg h1]
  by_cases h2 : k = 2
  · rw [if_pos h2]; exact ⟨h.start _, c0, c1⟩
  rw [if_neg h2]
  by_cases h3 : k = 3
  · rw [if_pos h3]; exact ⟨h.feed _ _, c0, c1⟩
  rw [if_neg h3]
  by_cases h4 : k = 4
  · rw [if_pos h4]; exact ⟨h.cancel _, c0, c1⟩
  rw [if_neg h4]
  by_cases h5 : k = 5
  · rw [if_pos h5]; exact ⟨h.comp, c0, c1⟩
  rw [if_neg h5]
  by_cases h6 : k = 6
  · rw [if_pos h6]
    have hk := Px.KI.opened (kil h).2.2.2.1 h.may h.nxt
    rw [h.tab, h.clk] at hk
    exact ⟨hk, c0, c1⟩
  rw [if_neg h6]; exact ⟨h, c0, c1⟩
end Go.Proofs.YtdajolpoiffimabDoor

namespace Go.Proofs.YtdajolpoiffimabDoor
open Go.RowKit

/-- What reopened tells. -/
def RopR (lg : ByteArray) (w w' : World) (e : Ending) : Prop := ∃ (s : Px.St) (q : ByteArray) (n : Int) (sl en : Value), e = .returned (.tuple #[snV (Kp.snB (Px.abs s)) sl en, .int .i64 n, .bool true]) ∧ Bx.Says true Bx.first lg (Px.abs s) q ∧ n + (q.size : Int) = (lg.size : Int) ∧ Bx.MayS (Px.abs s) ∧ SnAt w' (Kp.snB (Px.abs s)) sl en ∧ Below w.heap.size w w'
set_option maxRecDepth 10000 in
set_option maxHeartbeats 4000000 in
theorem kreop_any (lg : ByteArray) (w : World) (P : Nat) (l r : Int) (cs : List Value) (p : Cl w P 26 cs) (e1 : cs[1]? = some (.int .i64 l)) (e2 : cs[2]? = some (.int .i64 r)) (hm : mayB l r = true) (hlg : lg.size ≤ 4000) (hT : TT w) :
    Calls Tryd.prog 8 #[.pointer (some ⟨P, 0, none⟩), .string lg] w fun e w' => RopR lg w w' e := by
  have hb0 := below_alloc w (.cells #[.int .i64 0, .int .i64 0, .int .i64 0, .int .i64 0, .string { data := #[] }, .slice none 0 0, .slice none 0 0] 35)
  have hz := Cl.new w snZ 35
  have HP0 : Hid (Cl _ P 26 cs) := p.later hb0
  have HT0 : Hid (TT (w.alloc (.cells #[.int .i64 0, .int .i64 0, .int .i64 0, .int .i64 0, .string { data := #[] }, .slice none 0 0, .slice none 0 0] 35)).drew) := hT.later hb0.drew
  have HM : Hid (mayB l r = true) := hm
  have HE : Hid (cs[1]? = some (.int .i64 l) ∧ cs[2]? = some (.int .i64 r)) := ⟨e1, e2⟩
  clear p hT hm e1 e2
  go_enter Tryd.func8, Tryd.ntmps8
  go_upto_region 1 with fail
  have hz' : Cl (w.alloc (.cells #[.int .i64 0, .int .i64 0, .int .i64 0, .int .i64 0, .string { data := #[] }, .slice none 0 0, .slice none 0 0] 35)) w.heap.size 35 snZ := hz
  clear hz
  generalize w.alloc (.cells #[.int .i64 0, .int .i64 0, .int .i64 0, .int .i64 0, .string { data := #[] }, .slice none 0 0, .slice none 0 0] 35) = W at *
  have HZ0 : Hid (Cl W w.heap.size 35 snZ) := hz'
  have HB0 : Hid (Below w.heap.size w W) := hb0
  have c1 : W.cell? ⟨P, 1, none⟩ = some (.int .i64 l) := HP0.out.c 1 _ HE.out.1
  have c2 : W.cell? ⟨P, 2, none⟩ = some (.int .i64 r) := HP0.out.c 2 _ HE.out.2
  have hP := HP0.out.ty.lt
  clear hz' hb0
  go_wp2_with fail
  go_region_held3 (fun w' => ∀ b o, b < W.heap.size → w'.cell? ⟨b, o, none⟩ = W.cell? ⟨b, o, none⟩)
    ((intro b' o' h1; first | (exact hbC.cell (p := ⟨b', o', none⟩) h1) | rfl))
    ((go_at_call 5; refine (popen_yes l r lg _ HM.out hlg HT0.out).mono ?_; rintro e w5 ⟨s, q, n, B', rfl, hs, hn, hKB⟩; have hbC : Below W.heap.size W w5 := (Below.refl _ _).drew.trans hKB.bl))
  rename ∀ (b o : Nat), b < W.heap.size → w5.cell? ⟨b, o, none⟩ = W.cell? ⟨b, o, none⟩ => hSold
  have HMay : Hid (Bx.MayS (Px.abs s)) := Bx.says_may hs Bx.first_may
  have HSays : Hid (Bx.Says true Bx.first lg (Px.abs s) q ∧ n + (q.size : Int) = (lg.size : Int)) := ⟨hs, hn⟩
  have HB5 : Hid (Below w.heap.size w w5) := HB0.out.trans (hbC.mono HB0.out.size)
  have HZ5 : Hid (Cl w5 w.heap.size 35 snZ) := HZ0.out.later hbC
  have HPB : Hid (∃ sl en, PB w5 B' (Px.openB l r s) sl en) := hKB.pb
  have HOk : Hid (Px.Ok (Px.openB l r s).st) := Px.int_ok HMay.out
  have HSn : Hid (Kp.snOf (Px.openB l r s).st = Kp.snB (Px.abs s)) := Kp.sn_open s
  clear hSold c1 c2 hP hs hn hKB hbC
  go_wp2_with fail
  refine (ksnap_any (Px.openB l r s) B' w5 HOk.out HPB.out).mono ?_
  rw [HSn.out]
  obtain ⟨x, hx⟩ : ∃ x, Kp.snB (Px.abs s) = x := ⟨_, rfl⟩
  have HXe : Hid (Kp.snB (Px.abs s) = x) := hx
  rw [hx]
  clear hx
  rintro e w6 ⟨⟨sl, en, rfl, hA⟩, hb6⟩
  obtain ⟨ad, cap, rfl, _⟩ := hA.sl.form
  obtain ⟨ad2, cap2, rfl, _⟩ := hA.en.form
  have hbx := hb6.trans ((below_alloc w6 (snO x (.slice ad x.slots.length cap) (.slice ad2 x.ends.length cap2))).mono hb6.size)
  have hI := Cl.new w6 (snC x (.slice ad x.slots.length cap) (.slice ad2 x.ends.length cap2)) 35
  have hA2 := hA.later (below_alloc w6 (snO x (.slice ad x.slots.length cap) (.slice ad2 x.ends.length cap2)))
  clear hA hb6
  go_upto_region 5 with fail
  have hI' : Cl (w6.alloc (snO x (.slice ad x.slots.length cap) (.slice ad2 x.ends.length cap2))) w6.heap.size 35 (snC x (.slice ad x.slots.length cap) (.slice ad2 x.ends.length cap2)) := hI
  clear hI
  generalize w6.alloc (snO x (.slice ad x.slots.length cap) (.slice ad2 x.ends.length cap2)) = W7 at *
  generalize w6.heap.size = qx at *
  have hZ7 := HZ5.out.later hbx
  have HA7 : Hid (SnAt W7 x (.slice ad x.slots.length cap) (.slice ad2 x.ends.length cap2)) := hA2
  have HB7 : Hid (Below w.heap.size w W7) := HB5.out.trans (hbx.mono HB5.out.size)
  have HT7 : Hid (Typed W7 w.heap.size 35) := hZ7.ty
  have s0 := hI'.c 0 _ rfl; have s1 := hI'.c 1 _ rfl; have s2 := hI'.c 2 _ rfl; have s3 := hI'.c 3 _ rfl; have s4 := hI'.c 4 _ rfl; have s5 := hI'.c 5 _ rfl; have s6 := hI'.c 6 _ rfl
  have r0 := hZ7.c 0 _ rfl; have r1 := hZ7.c 1 _ rfl; have r2 := hZ7.c 2 _ rfl; have r3 := hZ7.c 3 _ rfl; have r4 := hZ7.c 4 _ rfl; have r5 := hZ7.c 5 _ rfl; have r6 := hZ7.c 6 _ rfl
  have f0 := hZ7.f 0 (by simp); have f1 := hZ7.f 1 (by simp); have f2 := hZ7.f 2 (by simp); have f3 := hZ7.f 3 (by simp); have f4 := hZ7.f 4 (by simp); have f5 := hZ7.f 5 (by simp); have f6 := hZ7.f 6 (by simp)
  have hq7 := hI'.ty.lt
  have hR7 := hZ7.ty.lt
  clear hI' hZ7 hbx hA2 HZ5 HB5
  go_wp2_with fail
  refine bodyPost_ret (v := .tuple #[snV x (.slice ad x.slots.length cap) (.slice ad2 x.ends.length cap2), .int .i64 n, .bool true]) (by simp [results, Tryd.results8, go_sem, r0, r1, r2, r3, r4, r5, r6]) rfl ?_
  refine ⟨s, q, n, (.slice ad x.slots.length cap), (.slice ad2 x.ends.length cap2), by rw [HXe.out], HSays.out.1, HSays.out.2, HMay.out, ?_, below_set7s HB7.out (Nat.le_refl _) _ _ _ _ _ _ _⟩
  rw [HXe.out]
  exact HA7.out.set7 HT7.out _ _ _ _ _ _ _
end Go.Proofs.YtdajolpoiffimabDoor

namespace Go.Proofs.YtdajolpoiffimabDoor
open Go.RowKit

/-- What is told by the box that is opened of the log of one that was opened. -/
theorem again_own {l r : Int} {s s2 : Px.St} {q2 : ByteArray} {n2 : Int} (hm : Bx.MayS (Px.abs s)) (hs : Bx.Says true Bx.first (Px.openB l r s).log (Px.abs s2) q2) (hn : n2 + (q2.size : Int) = ((Px.openB l r s).log.size : Int)) : n2 = ((Px.openB l r s).log.size : Int) ∧ Kp.snB (Px.abs s2) = Kp.snB (Px.abs s) := by
  have hm2 : Bx.MayS (Px.abs (Px.intP s)) := by rw [Px.int_abs]; exact hm.int
  obtain ⟨e1, e2⟩ := hs.uniq (Bx.Right.whole hm2)
  refine ⟨?_, by rw [e1, Px.int_abs, Kp.snB_int]⟩
  rw [e2] at hn
  have : (ByteArray.empty).size = 0 := rfl
  rw [this] at hn
  omega
theorem again_right {s s3 : Px.St} {lg q q3 : ByteArray} {n3 : Int} {k : Nat} (hs : Bx.Says true Bx.first lg (Px.abs s) q) (hk : k + q.size = lg.size) (hs3 : Bx.Says true Bx.first (lg.extract 0 k) (Px.abs s3) q3) (hn : n3 + (q3.size : Int) = ((lg.extract 0 k).size : Int)) : n3 = (k : Int) ∧ Kp.snB (Px.abs s3) = Kp.snB (Px.abs s) := by
  obtain ⟨h1, h2⟩ := Bx.says_right hs
  have hkk : lg.size - q.size = k := by omega
  rw [hkk] at h2
  obtain ⟨e1, e2⟩ := hs3.uniq h2
  have hz : (lg.extract 0 k).size = k := by rw [ByteArray.size_extract]; omega
  refine ⟨?_, by rw [e1]⟩
  rw [e2, hz] at hn
  have : (ByteArray.empty).size = 0 := rfl
  rw [this] at hn
  omega
theorem snB_steps (s : Bx.St) : ∀ y ∈ (Kp.snB s).slots, y.step = 0 := by
  intro y hy
  obtain ⟨z, _, rfl⟩ := List.mem_map.1 hy
  rfl
theorem snB_lens {s : Bx.St} (h : Bx.MayS s) : (Kp.snB s).slots.length ≤ 10000 ∧ (Kp.snB s).ends.length ≤ 10000 := by
  have h1 := h.sl
  have h2 := h.en
  have e : (Kp.snB s).slots.length = s.slots.length := by simp [Kp.snB]
  refine ⟨by omega, ?_⟩
  show s.ends.length ≤ 10000
  omega
set_option maxRecDepth 10000 in
set_option maxHeartbeats 16000000 in
theorem kAgain_any (a0 a1 : Int) (lg : ByteArray) (w : World) (h0 : I64 a0) (h1 : I64 a1) (_hsz : lg.size ≤ maxLen) (hT : TT w) :
    Calls Tryd.prog 3 #[.int .i64 a0, .int .i64 a1, .string lg] w fun e w' => e = .returned (.bool true) ∧ Below w.heap.size w w' := by
  have hM := s_may a0 a1
  have HC0 : Hid (∀ w : World, Calls Tryd.prog 4 #[.int .i64 a0, .int .i64 4] w fun e w' => e = .returned (.int .i64 (pk a0 4)) ∧ w' = w) := fun w => pick_at a0 4 _ w rfl h0.1 h0.2 (by decide) (by decide)
  have HC1 : Hid (∀ w : World, Calls Tryd.prog 4 #[.int .i64 a1, .int .i64 3401] w fun e w' => e = .returned (.int .i64 (pk a1 3401)) ∧ w' = w) := fun w => pick_at a1 3401 _ w rfl h1.1 h1.2 (by decide) (by decide)
  have hp0 := pk_bd a0 4 (by decide)
  have hp1 := pk_bd a1 3401 (by decide)
  have hM2 : mayB (1 + pk a0 4) (600 + pk a1 3401) = true := hM
  generalize pk a0 4 = p0 at *
  generalize pk a1 3401 = p1 at *
  obtain ⟨l, hl⟩ : ∃ l, 1 + p0 = l := ⟨_, rfl⟩
  obtain ⟨r, hr⟩ : ∃ r, 600 + p1 = r := ⟨_, rfl⟩
  rw [hl, hr] at hM2
  have wr1 : IntKind.i64.wrap (1 + p0) = l := by rw [IntKind.wrap_i64]; omega
  have wr2 : IntKind.i64.wrap (600 + p1) = r := by rw [IntKind.wrap_i64]; omega
  have HM : Hid (mayB l r = true) := hM2
  have HT : Hid (TT w) := hT
  have hb0 := below_alloc w (.cells #[.pointer none, .int .i64 l, .int .i64 r, .string { data := #[] }, .int .i64 0, .int .i64 0] 26)
  have hp := Cl.new w [.pointer none, .int .i64 l, .int .i64 r, .string { data := #[] }, .int .i64 0, .int .i64 0] 26
  clear hM hM2 hp0 hp1 hl hr hT h0 h1
  go_enter Tryd.func3, Tryd.ntmps3
  go_wp2_with fail
  refine (HC0.out _).mono ?_
  rintro e w2 ⟨rfl, h2⟩
  have h3 := h2.symm
  subst h3
  clear h2
  go_wp2_with fail
  refine (HC1.out _).mono ?_
  rintro e w3 ⟨rfl, h2⟩
  have h3 := h2.symm
  subst h3
  clear h2
  go_upto_region 2 with fail
  have hp' : Cl (w.alloc (.cells #[.pointer none, .int .i64 l, .int .i64 r, .string { data := #[] }, .int .i64 0, .int .i64 0] 26)) w.heap.size 26 [.pointer none, .int .i64 l, .int .i64 r, .string { data := #[] }, .int .i64 0, .int .i64 0] := hp
  clear hp
  have HTW : Hid (TT (w.alloc (.cells #[.pointer none, .int .i64 l, .int .i64 r, .string { data := #[] }, .int .i64 0, .int .i64 0] 26))) := HT.out.later hb0
  generalize w.alloc (.cells #[.pointer none, .int .i64 l, .int .i64 r, .string { data := #[] }, .int .i64 0, .int .i64 0] 26) = W at *
  have HP : Hid (Cl W w.heap.size 26 [.pointer none, .int .i64 l, .int .i64 r, .string { data := #[] }, .int .i64 0, .int .i64 0]) := hp'
  have HB0 : Hid (Below w.heap.size w W) := hb0
  clear hp' hb0 HC0 HC1 wr1 wr2 HT
  by_cases hlo : 4000 < lg.size
  case' pos =>
    have z1 : (4000 : Int) < (lg.size : Int) := by omega
    have z2 : (4000 : Int) ≤ (lg.size : Int) := by omega
    have hz4 : (lg.extract 0 4000).size = 4000 := by rw [ByteArray.size_extract]; omega
    go_upto_region 4 with fail
    clear z1 z2 hlo
    generalize lg.extract 0 4000 = lh at *
    have hlh : lh.size ≤ 4000 := by omega
    clear hz4
  case' neg =>
    have z1 : ¬ (4000 : Int) < (lg.size : Int) := by omega
    go_upto_region 4 with fail
    clear z1
    have hlh : lg.size ≤ 4000 := by omega
    clear hlo
    rename ByteArray => lh
  all_goals
    have HTd : Hid (TT W.drew) := HTW.out.later (Below.refl _ _).drew
    have c1 : W.cell? ⟨w.heap.size, 1, none⟩ = some (.int .i64 l) := HP.out.c 1 _ rfl
    have c2 : W.cell? ⟨w.heap.size, 2, none⟩ = some (.int .i64 r) := HP.out.c 2 _ rfl
    have hPl := HP.out.ty.lt
    go_region_held3 (fun w' => ∀ b o, b < W.heap.size → w'.cell? ⟨b, o, none⟩ = W.cell? ⟨b, o, none⟩)
      ((intro b' o' h1; first | (exact hbC.cell (p := ⟨b', o', none⟩) h1) | rfl))
      ((go_at_call 5; refine (popen_yes l r lh _ HM.out hlh HTd.out).mono ?_; rintro e w5 ⟨s, q, n, B', rfl, hs, hn, hKB⟩; have hbC : Below W.heap.size W w5 := (Below.refl _ _).drew.trans hKB.bl))
    rename ∀ (b o : Nat), b < W.heap.size → w5.cell? ⟨b, o, none⟩ = W.cell? ⟨b, o, none⟩ => hSold
    have HMay : Hid (Bx.MayS (Px.abs s)) := Bx.says_may hs Bx.first_may
    have hqs := (Bx.says_right hs).1
    obtain ⟨nN, hnN⟩ : ∃ nN : Nat, n = (nN : Int) := ⟨n.toNat, by omega⟩
    subst hnN
    have HSays : Hid (Bx.Says true Bx.first lh (Px.abs s) q ∧ nN + q.size = lh.size) := ⟨hs, by omega⟩
    have hnl : nN ≤ lh.size := by omega
    have HB5 : Hid (Below w.heap.size w w5) := HB0.out.trans (hbC.mono HB0.out.size)
    have HP5 : Hid (Cl w5 w.heap.size 26 [.pointer none, .int .i64 l, .int .i64 r, .string { data := #[] }, .int .i64 0, .int .i64 0]) := HP.out.later hbC
    have HT5 : Hid (TT w5) := HTW.out.later hbC
    have HKB : Hid (KB W.drew w5 B' (Px.openB l r s)) := hKB
    have HOk : Hid (Px.Ok (Px.openB l r s).st) := Px.int_ok HMay.out
    have HSn : Hid (Kp.snOf (Px.openB l r s).st = Kp.snB (Px.abs s)) := Kp.sn_open s
    have HOwn : Hid (∀ s2 q2 n2, Bx.Says true Bx.first (Px.openB l r s).log (Px.abs s2) q2 → n2 + (q2.size : Int) = ((Px.openB l r s).log.size : Int) → n2 = ((Px.openB l r s).log.size : Int) ∧ Kp.snB (Px.abs s2) = Kp.snB (Px.abs s)) := fun s2 q2 n2 e1 e2 => again_own HMay.out e1 e2
    have HRt : Hid (∀ s3 q3 n3, Bx.Says true Bx.first (lh.extract 0 nN) (Px.abs s3) q3 → n3 + (q3.size : Int) = ((lh.extract 0 nN).size : Int) → n3 = (nN : Int) ∧ Kp.snB (Px.abs s3) = Kp.snB (Px.abs s)) := fun s3 q3 n3 e1 e2 => again_right HSays.out.1 HSays.out.2 e1 e2
    have HSt : Hid (∀ y ∈ (Kp.snB (Px.abs s)).slots, y.step = 0) := snB_steps _
    have HLx : Hid ((Kp.snB (Px.abs s)).slots.length ≤ 10000 ∧ (Kp.snB (Px.abs s)).ends.length ≤ 10000) := snB_lens HMay.out
    have hLg : (Px.openB l r s).log.size ≤ 4000 ∧ 18 ≤ (Px.openB l r s).log.size := by
      have hm2 : Bx.MayS (Px.abs (Px.intP s)) := by rw [Px.int_abs]; exact HMay.out.int
      have h1 : (Bx.frame (Bx.wholeS (Px.abs (Px.intP s)))).size ≤ 456 := Px.whole_le hm2
      have h2 : 18 ≤ (Bx.frame (Bx.wholeS (Px.abs (Px.intP s)))).size := Px.whole_ge _
      exact ⟨Nat.le_trans h1 (by decide), h2⟩
    generalize Kp.snB (Px.abs s) = x at *
    generalize Px.openB l r s = bo at *
    clear hSold c1 c2 hPl hs hn hKB hbC hqs HTd
    have t1 : ¬ (nN : Int) < 0 := by omega
    have t2 : ¬ (lh.size : Int) < (nN : Int) := by omega
    have t3 : (0 : Int) ≤ (nN : Int) := by omega
    have t4 : (nN : Int) ≤ (lh.size : Int) := by omega
    go_wp2_with fail
    refine (ksnap_any bo B' w5 HOk.out HKB.out.pb).mono ?_
    rw [HSn.out]
    rintro e w6 ⟨⟨sl, en, rfl, hA⟩, hb6⟩
    obtain ⟨ad, cap, rfl, hcap⟩ := hA.sl.form
    obtain ⟨ad2, cap2, rfl, hcap2⟩ := hA.en.form
    have hb7 := hb6.trans ((below_alloc w6 (snO x (.slice ad x.slots.length cap) (.slice ad2 x.ends.length cap2))).mono hb6.size)
    have hI := Cl.new w6 (snC x (.slice ad x.slots.length cap) (.slice ad2 x.ends.length cap2)) 35
    have hA7 := hA.later (below_alloc w6 (snO x (.slice ad x.slots.length cap) (.slice ad2 x.ends.length cap2)))
    clear hA hb6
    go_upto_region 8 with fail
    have hI' : Cl (w6.alloc (snO x (.slice ad x.slots.length cap) (.slice ad2 x.ends.length cap2))) w6.heap.size 35 (snC x (.slice ad x.slots.length cap) (.slice ad2 x.ends.length cap2)) := hI
    clear hI
    generalize w6.alloc (snO x (.slice ad x.slots.length cap) (.slice ad2 x.ends.length cap2)) = W7 at *
    generalize w6.heap.size = q7 at *
    have HB7 : Hid (Below w.heap.size w W7) := HB5.out.trans (hb7.mono HB5.out.size)
    have HP7 : Hid (Cl W7 w.heap.size 26 [.pointer none, .int .i64 l, .int .i64 r, .string { data := #[] }, .int .i64 0, .int .i64 0]) := HP5.out.later hb7
    have HT7 : Hid (TT W7) := HT5.out.later hb7
    have HKB7 : Hid (KB W.drew W7 B' bo) := HKB.out.later hb7
    have H7 : Hid (Cl W7 q7 35 (snC x (.slice ad x.slots.length cap) (.slice ad2 x.ends.length cap2)) ∧ SnAt W7 x (.slice ad x.slots.length cap) (.slice ad2 x.ends.length cap2)) := ⟨hI', hA7⟩
    clear hb7 hI' hA7 HB5 HP5 HT5 HKB
    go_wp2_with fail
    refine (klog_any bo B' W.drew _ HKB7.out).mono ?_
    rintro e w8 ⟨rfl, h2⟩
    have h3 := h2.symm
    subst h3
    clear h2
    go_wp2_with fail
    refine (kreop_any bo.log W7 w.heap.size l r _ HP7.out rfl rfl HM.out hLg.1 HT7.out).mono ?_
    rintro e w9 ⟨s9, q9, n9, sl9, en9, rfl, g1, g2, _, hA9, hb9⟩
    obtain ⟨rfl, e9⟩ := HOwn.out _ _ _ g1 g2
    rw [e9] at hA9 ⊢
    obtain ⟨ad9, cap9, rfl, _⟩ := hA9.sl.form
    obtain ⟨ae9, cae9, rfl, _⟩ := hA9.en.form
    clear g1 g2 e9
    have hb10 := hb9.trans ((below_alloc w9 (snO x (.slice ad9 x.slots.length cap9) (.slice ae9 x.ends.length cae9))).mono hb9.size)
    have hI := Cl.new w9 (snC x (.slice ad9 x.slots.length cap9) (.slice ae9 x.ends.length cae9)) 35
    have hA10 := hA9.later (below_alloc w9 (snO x (.slice ad9 x.slots.length cap9) (.slice ae9 x.ends.length cae9)))
    clear hA9 hb9
    go_upto_region 10 with fail
    have hI' : Cl (w9.alloc (snO x (.slice ad9 x.slots.length cap9) (.slice ae9 x.ends.length cae9))) w9.heap.size 35 (snC x (.slice ad9 x.slots.length cap9) (.slice ae9 x.ends.length cae9)) := hI
    clear hI
    generalize w9.alloc (snO x (.slice ad9 x.slots.length cap9) (.slice ae9 x.ends.length cae9)) = W10 at *
    generalize w9.heap.size = q10 at *
    have HB10 : Hid (Below w.heap.size w W10) := HB7.out.trans (hb10.mono HB7.out.size)
    have HP10 : Hid (Cl W10 w.heap.size 26 [.pointer none, .int .i64 l, .int .i64 r, .string { data := #[] }, .int .i64 0, .int .i64 0]) := HP7.out.later hb10
    have HT10 : Hid (TT W10) := HT7.out.later hb10
    have H7a : Hid (Cl W10 q7 35 (snC x (.slice ad x.slots.length cap) (.slice ad2 x.ends.length cap2)) ∧ SnAt W10 x (.slice ad x.slots.length cap) (.slice ad2 x.ends.length cap2)) := ⟨H7.out.1.later hb10, H7.out.2.later hb10⟩
    have H10 : Hid (Cl W10 q10 35 (snC x (.slice ad9 x.slots.length cap9) (.slice ae9 x.ends.length cae9)) ∧ SnAt W10 x (.slice ad9 x.slots.length cap9) (.slice ae9 x.ends.length cae9)) := ⟨hI', hA10⟩
    clear hb10 hI' hA10 HB7 HP7 HT7 HKB7 H7
    go_wp2_with fail
    refine (kreop_any (lh.extract 0 nN) W10 w.heap.size l r _ HP10.out rfl rfl HM.out (by rw [ByteArray.size_extract]; omega) HT10.out).mono ?_
    rintro e w11 ⟨s11, q11, n11, sl11, en11, rfl, g1, g2, _, hA11, hb11⟩
    obtain ⟨rfl, e11⟩ := HRt.out _ _ _ g1 g2
    rw [e11] at hA11 ⊢
    obtain ⟨ad11, cap11, rfl, _⟩ := hA11.sl.form
    obtain ⟨ae11, cae11, rfl, _⟩ := hA11.en.form
    clear g1 g2 e11
    have hb12 := hb11.trans ((below_alloc w11 (snO x (.slice ad11 x.slots.length cap11) (.slice ae11 x.ends.length cae11))).mono hb11.size)
    have hI := Cl.new w11 (snC x (.slice ad11 x.slots.length cap11) (.slice ae11 x.ends.length cae11)) 35
    have hA12 := hA11.later (below_alloc w11 (snO x (.slice ad11 x.slots.length cap11) (.slice ae11 x.ends.length cae11)))
    clear hA11 hb11
    go_upto_region 11 with fail
    have hI' : Cl (w11.alloc (snO x (.slice ad11 x.slots.length cap11) (.slice ae11 x.ends.length cae11))) w11.heap.size 35 (snC x (.slice ad11 x.slots.length cap11) (.slice ae11 x.ends.length cae11)) := hI
    clear hI
    generalize w11.alloc (snO x (.slice ad11 x.slots.length cap11) (.slice ae11 x.ends.length cae11)) = W12 at *
    generalize w11.heap.size = q12 at *
    have HB12 : Hid (Below w.heap.size w W12) := HB10.out.trans (hb12.mono HB10.out.size)
    have H7b : Hid (Cl W12 q7 35 (snC x (.slice ad x.slots.length cap) (.slice ad2 x.ends.length cap2)) ∧ SnAt W12 x (.slice ad x.slots.length cap) (.slice ad2 x.ends.length cap2)) := ⟨H7a.out.1.later hb12, H7a.out.2.later hb12⟩
    have H10b : Hid (Cl W12 q10 35 (snC x (.slice ad9 x.slots.length cap9) (.slice ae9 x.ends.length cae9)) ∧ SnAt W12 x (.slice ad9 x.slots.length cap9) (.slice ae9 x.ends.length cae9)) := ⟨H10.out.1.later hb12, H10.out.2.later hb12⟩
    have H12b : Hid (Cl W12 q12 35 (snC x (.slice ad11 x.slots.length cap11) (.slice ae11 x.ends.length cae11)) ∧ SnAt W12 x (.slice ad11 x.slots.length cap11) (.slice ae11 x.ends.length cae11)) := ⟨hI', hA12⟩
    clear hb12 hI' hA12 HB10 HP10 HT10 H7a H10 HOwn HRt
    have t5 : ¬ (bo.log.size : Int) < 18 := by omega
    have hlx := HLx.out.1
    go_wp2_with fail
    go_loop [20] (fun i => ∃ k : Nat, k ≤ x.slots.length ∧ i = .int .i64 k) (fun i => x.slots.length - (intOf i).toNat)
    case atStart => exact ⟨0, Nat.zero_le _, rfl⟩
    case round =>
      obtain ⟨k, hk, rfl⟩ := hrel
      have i5 : W12.cell? ⟨q7, 5, none⟩ = some (.slice ad x.slots.length cap) := H7b.out.1.c 5 _ rfl
      have hq7 := H7b.out.1.ty.lt
      by_cases hlt : k < x.slots.length
      · obtain ⟨eb, off, cap', hv, _, hc⟩ := H7b.out.2.sl.1.some' (by omega)
        cases hv
        obtain ⟨d0, d1, d2, d3, d4, d5⟩ := ts_cells hc k hlt
        rw [HSt.out _ (List.getElem_mem hlt)] at d5
        clear hc d0 d1 d2 d3 d4
        have b1 : (0 : Int) ≤ (k : Int) := by omega
        have b2 : (k : Int) < (x.slots.length : Int) := by omega
        go_wp2_with fail
        go_round
        case rel => exact ⟨k + 1, by omega, by go_num⟩
        case measure => simp [intOf]; omega
      · obtain rfl : k = x.slots.length := by omega
        have b2 : ¬ (x.slots.length : Int) < (x.slots.length : Int) := by omega
        clear hlt
        have u0 := (H7b.out.1).c 0 _ rfl
        have u1 := (H7b.out.1).c 1 _ rfl
        have u2 := (H7b.out.1).c 2 _ rfl
        have u3 := (H7b.out.1).c 3 _ rfl
        have u4 := (H7b.out.1).c 4 _ rfl
        have u5 := (H7b.out.1).c 5 _ rfl
        have u6 := (H7b.out.1).c 6 _ rfl
        have hul := (H7b.out.1).ty.lt
        have v0 := (H10b.out.1).c 0 _ rfl
        have v1 := (H10b.out.1).c 1 _ rfl
        have v2 := (H10b.out.1).c 2 _ rfl
        have v3 := (H10b.out.1).c 3 _ rfl
        have v4 := (H10b.out.1).c 4 _ rfl
        have v5 := (H10b.out.1).c 5 _ rfl
        have v6 := (H10b.out.1).c 6 _ rfl
        have hvl := (H10b.out.1).ty.lt
        go_wp2_with fail
        refine (ksame_any x _ _ _ _ W12 HLx.out.1 HLx.out.2 H7b.out.2 H10b.out.2).mono ?_
        rintro e w13 ⟨rfl, hb13⟩
        have HB13 : Hid (Below w.heap.size w w13) := HB12.out.trans (hb13.mono HB12.out.size)
        have H7c : Hid (Cl w13 q7 35 (snC x (.slice ad x.slots.length cap) (.slice ad2 x.ends.length cap2)) ∧ SnAt w13 x (.slice ad x.slots.length cap) (.slice ad2 x.ends.length cap2)) := ⟨H7b.out.1.later hb13, H7b.out.2.later hb13⟩
        have H12c : Hid (Cl w13 q12 35 (snC x (.slice ad11 x.slots.length cap11) (.slice ae11 x.ends.length cae11)) ∧ SnAt w13 x (.slice ad11 x.slots.length cap11) (.slice ae11 x.ends.length cae11)) := ⟨H12b.out.1.later hb13, H12b.out.2.later hb13⟩
        clear u0 u1 u2 u3 u4 u5 u6 hul v0 v1 v2 v3 v4 v5 v6 hvl i5 hq7 hb13
        have u0 := (H7c.out.1).c 0 _ rfl
        have u1 := (H7c.out.1).c 1 _ rfl
        have u2 := (H7c.out.1).c 2 _ rfl
        have u3 := (H7c.out.1).c 3 _ rfl
        have u4 := (H7c.out.1).c 4 _ rfl
        have u5 := (H7c.out.1).c 5 _ rfl
        have u6 := (H7c.out.1).c 6 _ rfl
        have hul := (H7c.out.1).ty.lt
        have v0 := (H12c.out.1).c 0 _ rfl
        have v1 := (H12c.out.1).c 1 _ rfl
        have v2 := (H12c.out.1).c 2 _ rfl
        have v3 := (H12c.out.1).c 3 _ rfl
        have v4 := (H12c.out.1).c 4 _ rfl
        have v5 := (H12c.out.1).c 5 _ rfl
        have v6 := (H12c.out.1).c 6 _ rfl
        have hvl := (H12c.out.1).ty.lt
        go_wp2_with fail
        refine (ksame_any x _ _ _ _ w13 HLx.out.1 HLx.out.2 H7c.out.2 H12c.out.2).mono ?_
        rintro e w14 ⟨rfl, hb14⟩
        have HB14 : Hid (Below w.heap.size w w14) := HB13.out.trans (hb14.mono HB13.out.size)
        clear u0 u1 u2 u3 u4 u5 u6 hul v0 v1 v2 v3 v4 v5 v6 hvl hb14
        go_wp2_with fail
        go_ret
        exact ⟨rfl, HB14.out⟩
end Go.Proofs.YtdajolpoiffimabDoor
