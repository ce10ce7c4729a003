/-
  KStep, KFar, KStep2, KStep3, KBook, KHeld, KHeld2, KHeld3, KOnce, OnceM2, KOnce2.
-/
import Derived.Deep.LoopGhost
import Derived.Test.YtdajolpoiffimaaGreatDoorK8
import Derived.Test.YtdajolpoiffimaaGreatDoorK10
import Derived.Test.YtdajolpoiffimaaGreatDoorK11
import Derived.Test.YtdajolpoiffimaaGreatDoorK12
import Derived.Test.YtdajolpoiffimaaGreatDoorK13

namespace Go.Proofs.YtdajolpoiffimaaGreatDoor
open Go.RowKit

/-- All blocks but two are as they were. -/
structure Far2 (w w' : World) (P B : Nat) : Prop where
  sz : w.heap.size ≤ w'.heap.size
  blk : ∀ k, k < w.heap.size → k ≠ P → k ≠ B → w'.heap[k]? = w.heap[k]?
theorem Far2.refl (w : World) (P B : Nat) : Far2 w w P B := ⟨Nat.le_refl _, fun _ _ _ _ => rfl⟩
theorem Far2.trans {w w1 w2 : World} {P B : Nat} (h : Far2 w w1 P B) (h2 : Far2 w1 w2 P B) : Far2 w w2 P B := ⟨Nat.le_trans h.sz h2.sz, fun k hk h3 h4 => (h2.blk k (Nat.lt_of_lt_of_le hk h.sz) h3 h4).trans (h.blk k hk h3 h4)⟩
theorem Far2.below {w w' : World} {P B : Nat} (h : Below w.heap.size w w') : Far2 w w' P B := ⟨h.size, fun k hk _ _ => h.block k hk⟩
theorem Far2.grow {w w' : World} {P B : Nat} (h : w.grownBy w' (some B)) : Far2 w w' P B := ⟨h.size, fun k hk _ h4 => h.block k hk (fun e => h4 (by cases e; rfl))⟩
theorem Far2.set {w : World} {P B : Nat} (j : Nat) (v : Value) : Far2 w (w.setCell ⟨P, j, none⟩ v) P B := by
  refine ⟨by simp [World.setCell], fun k hk h3 h4 => ?_⟩
  have hg : w.grownBy (w.setCell ⟨P, j, none⟩ v) (some P) := grow_set (grow_of_below (Below.refl _ _) _) _ _
  exact hg.block k hk (fun e => h3 (by cases e; rfl))
theorem Cl.far2 {w w' : World} {P B q : Nat} {t : TypeId} {cs : List Value} (h : Cl w q t cs) (hf : Far2 w w' P B) (h1 : q ≠ P) (h2 : q ≠ B) : Cl w' q t cs := by
  have e := hf.blk q h.ty.lt h1 h2
  refine ⟨fun j v hj => ?_, fun j hj => ?_, ?_⟩
  · rw [World.cell?_of_block (a := ⟨q, j, none⟩) e]; exact h.c j v hj
  · rw [World.frozen?_of_block (a := ⟨q, j, none⟩) e]; exact h.f j hj
  · obtain ⟨cur, fr, hc⟩ := h.ty; exact ⟨cur, fr, e.trans hc⟩
def fedS (s : ByteArray) : ByteArray := if 40 < s.size then s.extract 0 40 else s
theorem fedS_le (s : ByteArray) : (fedS s).size ≤ 40 := by unfold fedS; split <;> (try simp) <;> omega
theorem kfed_any (s : ByteArray) (w : World) (hs : s.size ≤ maxLen) : Calls Tryz.prog 40 #[.string s] w fun e w' => e = .returned (.string (fedS s)) ∧ w' = w := by
  unfold maxLen at hs
  by_cases h : 40 < s.size
  · have H : Hid (fedS s = s.extract 0 40) := if_pos h
    have h' : (40 : Int) < (s.size : Int) := by omega
    have h'' : (40 : Int) ≤ (s.size : Int) := by omega
    go_enter Tryz.func40, Tryz.ntmps40
    go_wp2_with fail
    go_ret
    exact ⟨ret_str H.out.symm, rfl⟩
  · have H : Hid (fedS s = s) := if_neg h
    have h' : ¬ (40 : Int) < (s.size : Int) := by omega
    go_enter Tryz.func40, Tryz.ntmps40
    go_wp2_with fail
    go_ret
    exact ⟨ret_str H.out.symm, rfl⟩
set_option maxHeartbeats 1000000 in
theorem knumber_any (n : Int) (w0 w : World) (P B : Nat) (l r : Int) (t : ByteArray) (c g : Int) (b : Px.Bo) (hn : I64 n) (g0 : 0 ≤ g) (g1 : g ≤ 9999) (h : KW w0 w P B l r t c g b) :
    Calls Tryz.prog 37 #[.pointer (some ⟨P, 0, none⟩), .int .i64 n] w fun e w' => e = .returned (.int .i64 (1 + pk n (g + 1))) ∧ w' = w := by
  have c5 : w.cell? ⟨P, 5, none⟩ = some (.int .i64 g) := h.p.c 5 _ rfl
  have hP := h.p.ty.lt
  have hb := pk_bd n (g + 1) (by omega)
  obtain ⟨p, hp⟩ : ∃ p, pk n (g + 1) = p := ⟨_, rfl⟩
  rw [hp] at hb
  have HP : Hid (pk n (g + 1) = p) := hp
  have HN : Hid (I64 n) := hn
  obtain ⟨q0, q1⟩ := hb
  clear h hp hn
  go_enter Tryz.func37, Tryz.ntmps37
  go_wp2_with fail
  refine (pick_at n (g + 1) p _ HP.out HN.out.1 HN.out.2 (by omega) (by omega)).mono ?_
  rintro e w1 ⟨rfl, h2⟩
  have h3 := h2.symm
  subst h3
  go_wp2_with fail
  go_ret
  exact ⟨ret_int' (by rw [HP.out]), rfl⟩
set_option maxHeartbeats 1000000 in
theorem kmay_any (e more : Int) (w0 w : World) (P B : Nat) (l r : Int) (t : ByteArray) (c g : Int) (b : Px.Bo) (h0 : 0 ≤ more) (h1 : more ≤ 100000) (hz : b.log.size ≤ 10000) (h : KW w0 w P B l r t c g b) (hm : e = 13 → r < (b.log.size : Int) + more) :
    Calls Tryz.prog 38 #[.pointer (some ⟨P, 0, none⟩), .int .i64 e, .int .i64 more] w fun e w' => e = .returned (.bool true) ∧ w' = w := by
  have H : Hid (KW w0 w P B l r t c g b) := h
  by_cases h13 : e = 13
  · have HD : Hid (decide (r < (b.log.size : Int) + more) = true) := decide_eq_true (hm h13)
    subst h13
    clear h hm
    go_enter Tryz.func38, Tryz.ntmps38
    go_wp2_with fail
    refine (kfull_any more w0 _ P B l r t c g b h0 h1 hz H.out).mono ?_
    rw [HD.out]
    rintro e w1 ⟨rfl, h2⟩
    have h3 := h2.symm
    subst h3
    go_wp2_with fail
    go_ret
    exact ⟨rfl, rfl⟩
  · clear h hm
    go_enter Tryz.func38, Tryz.ntmps38
    go_wp2_with fail
    go_ret
    exact ⟨rfl, rfl⟩
theorem kig {b : Px.Bo} {l r : Int} {t : ByteArray} {c g : Int} (h : Px.KI b l r t c g) : 0 ≤ g ∧ g ≤ 9999 := by
  have h1 : 1 ≤ b.st.next := h.may.n1
  have h2 : b.st.next ≤ 10000 := h.may.n2
  have := h.nxt
  omega
theorem kil {b : Px.Bo} {l r : Int} {t : ByteArray} {c g : Int} (h : Px.KI b l r t c g) : b.log.size ≤ 10000 ∧ 1 ≤ l ∧ l ≤ 4 ∧ mayB l r = true ∧ b.log.size ≤ 4000 := by
  have := h.log
  exact ⟨by omega, by omega, by omega, decide_eq_true (by omega), by omega⟩
/-- What a Tick of some minutes on makes. -/
noncomputable def onS (c g n : Int) (b : Px.Bo) : Int × Int × Px.Bo := if 4223371679 < c + 1 + pk n 1500 then (c, g, b) else if (Px.tickB b (c + 1 + pk n 1500)).2.2 = 0 then (c + 1 + pk n 1500, g + (Px.tickB b (c + 1 + pk n 1500)).2.1, (Px.tickB b (c + 1 + pk n 1500)).1) else (c, g, b)
set_option maxRecDepth 10000 in
set_option maxHeartbeats 4000000 in
theorem kon_any (n : Int) (w0 w : World) (P B : Nat) (l r : Int) (t : ByteArray) (c g : Int) (b : Px.Bo) (hn : I64 n) (c0 : 0 ≤ c) (c1 : c ≤ 4223371679) (hT : TT w0) (hk : Px.KI b l r t c g) (h : KW w0 w P B l r t c g b) :
    Calls Tryz.prog 35 #[.pointer (some ⟨P, 0, none⟩), .int .i64 n] w fun e w' => e = .returned (.bool true) ∧ KW w0 w' P B l r t (onS c g n b).1 (onS c g n b).2.1 (onS c g n b).2.2 ∧ Far2 w w' P B := by
  have HW : Hid (KW w0 w P B l r t c g b) := h
  have HK : Hid (Px.KI b l r t c g) := hk
  have HT : Hid (TT w0) := hT
  have c4 : w.cell? ⟨P, 4, none⟩ = some (.int .i64 c) := h.p.c 4 _ rfl
  have hP := h.p.ty.lt
  have hp := pk_bd n 1500 (by decide)
  have HS : Hid (onS c g n b = if 4223371679 < c + 1 + pk n 1500 then (c, g, b) else if (Px.tickB b (c + 1 + pk n 1500)).2.2 = 0 then (c + 1 + pk n 1500, g + (Px.tickB b (c + 1 + pk n 1500)).2.1, (Px.tickB b (c + 1 + pk n 1500)).1) else (c, g, b)) := rfl
  have C0' : ∀ wq : World, Calls Tryz.prog 27 #[.int .i64 n, .int .i64 1500] wq fun e w' => e = .returned (.int .i64 (pk n 1500)) ∧ w' = wq := fun wq => pick_at n 1500 _ wq rfl hn.1 hn.2 (by decide) (by decide)
  generalize pk n 1500 = p at *
  obtain ⟨p0, p1⟩ := hp
  have C0 : Hid (∀ wq : World, Calls Tryz.prog 27 #[.int .i64 n, .int .i64 1500] wq fun e w' => e = .returned (.int .i64 p) ∧ w' = wq) := C0'
  have wr1 : IntKind.i64.wrap (c + 1) = c + 1 := by rw [IntKind.wrap_i64]; omega
  have wr2 : IntKind.i64.wrap (c + 1 + p) = c + 1 + p := by rw [IntKind.wrap_i64]; omega
  have HWd : Hid (KW w0 w.drew P B l r t c g b) := h.later (Below.refl _ _).drew
  clear h hk hT hn C0'
  go_enter Tryz.func35, Tryz.ntmps35
  go_wp2_with fail
  go_region_held3 (fun w' => ∀ b o, b < w.heap.size → w'.cell? ⟨b, o, none⟩ = w.cell? ⟨b, o, none⟩)
    ((intro b' o' h1; rfl))
    ((go_at_call 27; refine (C0.out _).mono ?_; rintro e w5 ⟨rfl, rfl⟩))
  rename ∀ (b o : Nat), b < w.heap.size → _ = w.cell? _ => hSold
  clear hSold c4 C0
  try rw [wr1]
  try rw [wr2]
  clear wr1 wr2
  have HF0 : Hid (Far2 w w.drew P B) := Far2.below (Below.refl _ _).drew
  have hP' : P < w.drew.heap.size := hP
  generalize hwg : w.drew = wg at *
  clear hwg hP
  obtain ⟨tm, hto⟩ : ∃ tm, c + 1 + p = tm := ⟨_, rfl⟩
  rw [hto] at HS ⊢
  have ht1 : c < tm := by omega
  have ht2 : tm ≤ c + 1500 := by omega
  clear hto p0 p1
  by_cases hmx : 4223371679 < tm
  · have HSs : Hid (onS c g n b = (c, g, b)) := by unfold Hid; rw [HS.out, if_pos hmx]
    go_wp2_with fail
    go_ret
    exact ⟨rfl, by rw [HSs.out]; exact ⟨HWd.out, HF0.out⟩⟩
  have HS2 : Hid (onS c g n b = if (Px.tickB b tm).2.2 = 0 then (tm, g + (Px.tickB b tm).2.1, (Px.tickB b tm).1) else (c, g, b)) := by unfold Hid; rw [HS.out, if_neg hmx]
  clear HS
  have c00 : wg.cell? ⟨P, 0, none⟩ = some (.pointer (some ⟨B, 0, none⟩)) := HWd.out.p.c 0 _ rfl
  have hcod := Px.tick_codes b tm (by omega) (by omega) (HK.out.ahead ht1 ht2)
  have hg9 := kig HK.out
  have hll := kil HK.out
  have hl1 := hll.2.1
  have hl2 := hll.2.2.1
  have H7 : Hid (10000 < b.st.next + ((Px.comesP b.st tm).length : Int) → 9999 < g + 4 * (tm - c)) := HK.out.ids7 c0 ht1
  have H13 : Hid ((Px.clockP b.st tm).2 = 0 → b.room < (b.log.size : Int) + (Px.tickQ b tm).2.size → r < (b.log.size : Int) + (12 + 9 * l)) := HK.out.room13
  have hwn : ((Px.comesP b.st tm).length : Int) ≤ 6000 := by have := HK.out.many c0 ht1; omega
  rcases hcod with h0 | ⟨hb', hn0, ⟨h7, hi7⟩ | ⟨h13, hc13, hr13⟩⟩
  · obtain ⟨q1, q2⟩ := HK.out.tick tm h0
    have HSs : Hid (onS c g n b = (tm, g + (Px.tickB b tm).2.1, (Px.tickB b tm).1)) := by unfold Hid; rw [HS2.out, if_pos h0]
    have HR : Hid ((Px.tickB b tm).2 = ((Px.tickB b tm).2.1, 0)) := Prod.ext rfl h0
    have hgw := kig q2
    rw [← q1] at hgw hwn
    have hw0 : 0 ≤ (Px.tickB b tm).2.1 := by rw [q1]; omega
    clear q1 q2 h0 H7 H13 HS2
    go_wp2_with fail
    refine (ktick_any b B tm w0 _ HK.out.ok hll.1 HT.out HWd.out.b).mono ?_
    rw [HR.out]
    generalize (Px.tickB b tm).1 = b2 at *
    generalize (Px.tickB b tm).2.1 = want at *
    rintro e w6 ⟨rfl, hK6, hg6⟩
    have hW6 := HWd.out.call hK6 hg6
    have HF6 : Hid (Far2 w w6 P B) := HF0.out.trans (Far2.grow hg6)
    have c4 : w6.cell? ⟨P, 4, none⟩ = some (.int .i64 c) := hW6.p.c 4 _ rfl
    have f4 := hW6.p.f 4 (by simp)
    have hP6 := hW6.p.ty.lt
    have hW7 : KW w0 (w6.setCell ⟨P, 4, none⟩ (.int .i64 tm)) P B l r t tm g b2 := hW6.set 4 _ (by decide) rfl
    have HF7 : Hid (Far2 w (w6.setCell ⟨P, 4, none⟩ (.int .i64 tm)) P B) := HF6.out.trans (Far2.set _ _)
    clear c00 hK6 hg6 hW6 HR HF6 HF0
    go_upto_region 9 with fail
    clear c4 f4
    generalize w6.setCell ⟨P, 4, none⟩ (.int .i64 tm) = W7 at *
    have c5 : W7.cell? ⟨P, 5, none⟩ = some (.int .i64 g) := hW7.p.c 5 _ rfl
    have f5 := hW7.p.f 5 (by simp)
    have hP7 := hW7.p.ty.lt
    have HW8 : Hid (KW w0 (W7.setCell ⟨P, 5, none⟩ (.int .i64 (g + want))) P B l r t tm (g + want) b2 ∧ Far2 w (W7.setCell ⟨P, 5, none⟩ (.int .i64 (g + want))) P B) := ⟨hW7.set 5 _ (by decide) rfl, HF7.out.trans (Far2.set _ _)⟩
    clear hW7
    go_wp2_with fail
    go_ret
    exact ⟨rfl, by rw [HSs.out]; exact HW8.out⟩
  · have HR : Hid ((Px.tickB b tm).1 = b ∧ (Px.tickB b tm).2 = (0, 7)) := ⟨hb', Prod.ext hn0 h7⟩
    have HSs : Hid (onS c g n b = (c, g, b)) := by unfold Hid; rw [HS2.out, if_neg (by rw [h7]; decide)]
    have HTk : Hid (tkd b l r g 7 (tm - c) = true) := by
      have := H7.out hi7
      unfold Hid tkd; simp; omega
    clear H7 H13 hb' hn0 h7 hi7 HS2
    go_wp2_with fail
    refine (ktick_any b B tm w0 _ HK.out.ok hll.1 HT.out HWd.out.b).mono ?_
    rw [HR.out.1, HR.out.2]
    rintro e w6 ⟨rfl, hK6, hg6⟩
    have hW6 := HWd.out.call hK6 hg6
    have HW6 : Hid (KW w0 w6 P B l r t c g b ∧ Far2 w w6 P B) := ⟨hW6, HF0.out.trans (Far2.grow hg6)⟩
    have c4 : w6.cell? ⟨P, 4, none⟩ = some (.int .i64 c) := hW6.p.c 4 _ rfl
    have hP6 := hW6.p.ty.lt
    clear c00 hK6 hg6 hW6 HR
    go_wp2_with fail
    refine (kticked_any 7 (tm - c) w0 _ P B l r t c g b (by omega) (by omega) (by omega) (by omega) (by omega) (by omega) hll.1 HW6.out.1).mono ?_
    rw [HTk.out]
    rintro e w7 ⟨rfl, hw7⟩
    have hw7s := hw7.symm
    subst hw7s
    clear c4 hw7
    go_wp2_with fail
    go_ret
    exact ⟨rfl, by rw [HSs.out]; exact HW6.out⟩
  · have HR : Hid ((Px.tickB b tm).1 = b ∧ (Px.tickB b tm).2 = (0, 13)) := ⟨hb', Prod.ext hn0 h13⟩
    have HSs : Hid (onS c g n b = (c, g, b)) := by unfold Hid; rw [HS2.out, if_neg (by rw [h13]; decide)]
    have HTk : Hid (tkd b l r g 13 (tm - c) = true) := by
      have := H13.out hc13 hr13
      unfold Hid tkd; simp; omega
    clear H7 H13 hb' hn0 h13 hc13 hr13 HS2
    go_wp2_with fail
    refine (ktick_any b B tm w0 _ HK.out.ok hll.1 HT.out HWd.out.b).mono ?_
    rw [HR.out.1, HR.out.2]
    rintro e w6 ⟨rfl, hK6, hg6⟩
    have hW6 := HWd.out.call hK6 hg6
    have HW6 : Hid (KW w0 w6 P B l r t c g b ∧ Far2 w w6 P B) := ⟨hW6, HF0.out.trans (Far2.grow hg6)⟩
    have c4 : w6.cell? ⟨P, 4, none⟩ = some (.int .i64 c) := hW6.p.c 4 _ rfl
    have hP6 := hW6.p.ty.lt
    clear c00 hK6 hg6 hW6 HR
    go_wp2_with fail
    refine (kticked_any 13 (tm - c) w0 _ P B l r t c g b (by omega) (by omega) (by omega) (by omega) (by omega) (by omega) hll.1 HW6.out.1).mono ?_
    rw [HTk.out]
    rintro e w7 ⟨rfl, hw7⟩
    have hw7s := hw7.symm
    subst hw7s
    clear c4 hw7
    go_wp2_with fail
    go_ret
    exact ⟨rfl, by rw [HSs.out]; exact HW6.out⟩
end Go.Proofs.YtdajolpoiffimaaGreatDoor

namespace Go.Proofs.YtdajolpoiffimaaGreatDoor
open Go.RowKit

theorem typed_ne {w : World} {p q : Nat} {s t : TypeId} (h : Typed w p s) (h' : Typed w q t) (hne : s ≠ t) : p ≠ q := fun e => by
  obtain ⟨c1, f1, h1⟩ := h
  obtain ⟨c2, f2, h2⟩ := h'
  rw [e, h2] at h1; cases h1; exact hne rfl
theorem Typed.grow {w w' : World} {q g : Nat} {t : TypeId} (h : Typed w q t) (hg : w.grownBy w' (some g)) (hne : q ≠ g) : Typed w' q t := by
  obtain ⟨c1, f1, h1⟩ := h
  exact ⟨c1, f1, (hg.block q (heap_lt h1) (fun e => hne (by cases e; rfl))).trans h1⟩
theorem Typed.far2 {w w' : World} {q P B : Nat} {t : TypeId} (h : Typed w q t) (hf : Far2 w w' P B) (h1 : q ≠ P) (h2 : q ≠ B) : Typed w' q t := by
  obtain ⟨c1, f1, h3⟩ := h
  exact ⟨c1, f1, (hf.blk q (heap_lt h3) h1 h2).trans h3⟩
theorem KW.grow' {w0 w w' : World} {P B : Nat} {l r : Int} {tab : ByteArray} {c g : Int} {b : Px.Bo} (h : KW w0 w P B l r tab c g b) {q : Nat} {t : TypeId} (hg : w.grownBy w' (some q)) (ht : Typed w q t) (hq : w0.heap.size ≤ q) (h1 : t ≠ 67) (h2 : 154 ≠ t) (h3 : 95 ≠ t) (h4 : 71 ≠ t) : KW w0 w' P B l r tab c g b := by
  obtain ⟨sl, en, hp⟩ := h.b.pb
  exact ⟨h.p.grow hg (typed_ne h.p.ty ht h4), ⟨h.b.lo, below_grow h.b.bl hg hq, sl, en, hp.grow' hg ht h1 h2 h3⟩, h.lo⟩
theorem SnAt.grow' {w w' : World} {x : Kp.Sn} {sl en : Value} (h : SnAt w x sl en) {q : Nat} {t : TypeId} (hg : w.grownBy w' (some q)) (ht : Typed w q t) (h1 : 97 ≠ t) (h2 : 95 ≠ t) : SnAt w' x sl en := ⟨h.sl.grow' hg ht h1, h.en.grow' hg ht h2⟩
theorem own_row {w : World} {base size n g off n' cap : Nat} {e : TypeId} {xs : List Value} (h : w.ownsRow base e size (.slice (some ⟨g, off, none⟩) n' cap) n xs) : Typed w g e ∧ base ≤ g := by
  rcases h.2 with ⟨q, _⟩ | ⟨g', cap', cur, q, hge, hg, _⟩
  · cases q
  · cases q; exact ⟨⟨cur, (0, 0), hg⟩, hge⟩
theorem own_far {w w' : World} {base size n : Nat} {e : TypeId} {v : Value} {xs : List Value} (h : w.ownsRow base e size v n xs) (hk : ∀ g, Typed w g e → w'.heap[g]? = w.heap[g]?) : w'.ownsRow base e size v n xs := by
  refine ⟨h.1, ?_⟩
  rcases h.2 with q | ⟨g, cap, cur, q, hge, hg, r⟩
  · exact Or.inl q
  · exact Or.inr ⟨g, cap, cur, q, hge, (hk g ⟨cur, (0, 0), hg⟩).trans hg, r⟩
theorem TRow.far {w w' : World} {e : TypeId} {v : Value} {n : Nat} {cs : List Value} (h : TRow w e v n cs) (hk : ∀ g, Typed w g e → w'.heap[g]? = w.heap[g]?) : TRow w' e v n cs := by
  refine ⟨?_, fun b off m cap hv => ?_⟩
  · rcases h.1 with a | ⟨b, off, cap, hv, hle, hc⟩
    · exact Or.inl a
    · refine Or.inr ⟨b, off, cap, hv, hle, fun j hj => ?_⟩
      have e := hk b (h.2 b off n cap hv)
      rw [World.cell?_of_block (a := ⟨b, off + j, none⟩) e]; exact hc j hj
  · obtain ⟨cur, fr, hc⟩ := h.2 b off m cap hv
    exact ⟨cur, fr, (hk b ⟨cur, fr, hc⟩).trans hc⟩
theorem Far2.of {w w' : World} {P B : Nat} (hf : Far2 w w' P B) (hP : Typed w P 71) (hB : Typed w B 67) {t : TypeId} (h1 : t ≠ 71) (h2 : t ≠ 67) (g : Nat) (hg : Typed w g t) : w'.heap[g]? = w.heap[g]? :=
  hf.blk g hg.lt (typed_ne hg hP h1) (typed_ne hg hB h2)
theorem SnAt.far2 {w w' : World} {P B : Nat} {x : Kp.Sn} {sl en : Value} (h : SnAt w x sl en) (hf : Far2 w w' P B) (hP : Typed w P 71) (hB : Typed w B 67) : SnAt w' x sl en := ⟨h.sl.far (hf.of hP hB (by decide) (by decide)), h.en.far (hf.of hP hB (by decide) (by decide))⟩
theorem PB.far2 {w w' : World} {P B B2 : Nat} {b : Px.Bo} {sl en : Value} (h : PB w B2 b sl en) (hf : Far2 w w' P B) (hP : Typed w P 71) (hB : Typed w B 67) (hne : B2 ≠ B) : PB w' B2 b sl en := by
  have eb := hf.blk B2 h.ty.lt (typed_ne h.ty hP (by decide)) hne
  have cc : ∀ (k : Nat) (u : Value), w.cell? ⟨B2, k, none⟩ = some u → w'.cell? ⟨B2, k, none⟩ = some u := fun k u x => by rw [World.cell?_of_block (a := ⟨B2, k, none⟩) eb]; exact x
  refine ⟨cc _ _ h.c0, cc _ _ h.c1, cc _ _ h.c2, cc _ _ h.c3, cc _ _ h.c4, cc _ _ h.c5, cc _ _ h.c6, cc _ _ h.c7, fun k hk => by rw [World.frozen?_of_block (a := ⟨B2, k, none⟩) eb]; exact h.f k hk, ?_, ⟨h.rows.sl.far (hf.of hP hB (by decide) (by decide)), h.rows.en.far (hf.of hP hB (by decide) (by decide))⟩⟩
  obtain ⟨c, f, e⟩ := h.ty
  exact ⟨c, f, eb.trans e⟩
theorem KW.far2 {w0 w w' : World} {P B P2 B2 : Nat} {l r : Int} {tab : ByteArray} {c g : Int} {b : Px.Bo} (h : KW w0 w P2 B2 l r tab c g b) (hf : Far2 w w' P B) (hP : Typed w P 71) (hB : Typed w B 67) (h1 : P2 ≠ P) (h2 : B2 ≠ B) (bl : Below w0.heap.size w0 w') : KW w0 w' P2 B2 l r tab c g b := by
  obtain ⟨sl, en, hp⟩ := h.b.pb
  exact ⟨h.p.far2 hf h1 (typed_ne h.p.ty hB (by decide)), ⟨h.b.lo, bl, sl, en, hp.far2 hf hP hB h2⟩, h.lo⟩
end Go.Proofs.YtdajolpoiffimaaGreatDoor

namespace Go.Proofs.YtdajolpoiffimaaGreatDoor
open Go.RowKit

theorem far_start {b : Px.Bo} {l r : Int} {t : ByteArray} {c g : Int} (h : Px.KI b l r t c g) (n : Int) : (Px.startB b n).2.2 = 13 → r < ((Px.startB b n).1.log.size : Int) + 18 := by
  intro q
  have e : (Px.startB b n).1 = b := by
    have hs0 : (Px.startP b.st n).2 = 0 → Px.Ok (Px.startP b.st n).1 := Px.startP_ok h.ok n
    rcases Px.start_adv h.ok n hs0 with ⟨_, e, _⟩ | ⟨e, _⟩
    · exact e
    · rw [e] at q; exact absurd q (by decide)
  rcases Px.start_codes b n with q0 | ⟨_, q0⟩ | ⟨_, q1⟩
  · omega
  · omega
  · rw [e, ← h.room]; exact q1
theorem far_feed {b : Px.Bo} {l r : Int} {t : ByteArray} {c g : Int} (h : Px.KI b l r t c g) (n : Int) (x : ByteArray) (hx : x.size ≤ 40) : (Px.feedB b n x).2.2 = 13 → r < ((Px.feedB b n x).1.log.size : Int) + 9 := by
  intro q
  have e : (Px.feedB b n x).1 = b := by
    rcases Px.feed_adv h.ok n x with ⟨_, e, _⟩ | ⟨e, _⟩
    · exact e
    · rw [e] at q; exact absurd q (by decide)
  rcases Px.feed_codes b n x hx with q0 | q0 | q0 | ⟨_, q1⟩
  · omega
  · omega
  · omega
  · rw [e, ← h.room]; exact q1
theorem far_cancel {b : Px.Bo} {l r : Int} {t : ByteArray} {c g : Int} (h : Px.KI b l r t c g) (n : Int) : (Px.cancelB b n).2 = 13 → r < ((Px.cancelB b n).1.log.size : Int) + 9 := by
  intro q
  have e : (Px.cancelB b n).1 = b := by
    rcases Px.cancel_adv h.ok n with ⟨_, e⟩ | ⟨e, _⟩
    · exact e
    · rw [e] at q; exact absurd q (by decide)
  rcases Px.cancel_codes b n with q0 | q0 | ⟨_, q1⟩
  · omega
  · omega
  · rw [e, ← h.room]; exact q1
theorem open_same {b : Px.Bo} {l r : Int} {t : ByteArray} {c g : Int} (h : Px.KI b l r t c g) {s : Px.St} {q : ByteArray} {n : Int} (hs : Bx.Says true Bx.first b.log (Px.abs s) q) (hn : n + (q.size : Int) = (b.log.size : Int)) : n = (b.log.size : Int) ∧ Px.openB l r s = Px.openB l r b.st := by
  obtain ⟨e1, e2⟩ := hs.uniq h.right
  refine ⟨?_, Px.openB_of e1⟩
  rw [e2] at hn
  have : (ByteArray.empty).size = 0 := rfl
  rw [this] at hn
  omega
set_option maxRecDepth 10000 in
set_option maxHeartbeats 4000000 in
theorem kwopen_any (w0 w : World) (P B : Nat) (l r : Int) (t : ByteArray) (c g : Int) (b : Px.Bo) (hT : TT w0) (hk : Px.KI b l r t c g) (h : KW w0 w P B l r t c g b) :
    Calls Tryz.prog 43 #[.pointer (some ⟨P, 0, none⟩)] w fun e w' => e = .returned (.bool true) ∧ ∃ B', KW w0 w' P B' l r t c g (Px.openB l r b.st) ∧ Far2 w w' P B ∧ w.heap.size ≤ B' := by
  have HW : Hid (KW w0 w P B l r t c g b) := h
  have HK : Hid (Px.KI b l r t c g) := hk
  have HT : Hid (TT w.drew) := hT.later (h.bl.drew)
  have c0 : w.cell? ⟨P, 0, none⟩ = some (.pointer (some ⟨B, 0, none⟩)) := h.p.c 0 _ rfl
  have c1 : w.cell? ⟨P, 1, none⟩ = some (.int .i64 l) := h.p.c 1 _ rfl
  have c2 : w.cell? ⟨P, 2, none⟩ = some (.int .i64 r) := h.p.c 2 _ rfl
  have hP := h.p.ty.lt
  have hll := kil hk
  have HM : Hid (mayB l r = true ∧ b.log.size ≤ 4000) := ⟨hll.2.2.2.1, hll.2.2.2.2⟩
  clear h hk hT hll
  go_enter Tryz.func43, Tryz.ntmps43
  go_wp2_with fail
  refine (klog_any b B w0 _ HW.out.b).mono ?_
  rintro e w1 ⟨rfl, h2⟩
  have h3 := h2.symm
  subst h3
  clear h2
  go_wp2_with fail
  go_region_held3 (fun w' => ∀ b o, b < w.heap.size → w'.cell? ⟨b, o, none⟩ = w.cell? ⟨b, o, none⟩)
    ((intro b' o' h1; first | (exact hbC.cell (p := ⟨b', o', none⟩) h1) | rfl))
    ((go_at_call 19; refine (popen_yes l r b.log _ HM.out.1 HM.out.2 HT.out).mono ?_; rintro e w5 ⟨s, q, n, B', rfl, hs, hn, hKB⟩; have hbC : Below w.heap.size w w5 := (Below.refl _ _).drew.trans hKB.bl))
  rename ∀ (b o : Nat), b < w.heap.size → w5.cell? ⟨b, o, none⟩ = w.cell? ⟨b, o, none⟩ => hSold
  obtain ⟨e1, e2⟩ := open_same HK.out hs hn
  subst e1
  have hKB2 : KB w.drew w5 B' (Px.openB l r b.st) := by rw [← e2]; exact hKB
  have hp5 := HW.out.p.later hbC
  have c0' : w5.cell? ⟨P, 0, none⟩ = some (.pointer (some ⟨B, 0, none⟩)) := hp5.c 0 _ rfl
  have f0 := hp5.f 0 (by simp)
  have hP5 := hp5.ty.lt
  have HX : Hid (KW w0 (w5.setCell ⟨P, 0, none⟩ (.pointer (some ⟨B', 0, none⟩))) P B' l r t c g (Px.openB l r b.st) ∧ Far2 w (w5.setCell ⟨P, 0, none⟩ (.pointer (some ⟨B', 0, none⟩))) P B ∧ w.heap.size ≤ B') := by
    obtain ⟨sl, en, hp⟩ := hKB2.pb
    have hlo := HW.out.lo
    have hB1 : w.heap.size ≤ B' := hKB2.lo
    have hbl := HW.out.bl
    exact ⟨⟨hp5.set 0 (by simp) _, ⟨Nat.le_trans hbl.size hB1, (hbl.trans (hbC.mono hbl.size)).setCell hlo _, sl, en, hp.far hp5.ty (by decide) (by decide) (by decide) _ _⟩, hlo⟩, (Far2.below hbC).trans (Far2.set _ _), hB1⟩
  clear hSold c0 c1 c2 hs hn e2 hKB hKB2 hp5 hbC
  go_wp2_with fail
  go_ret
  exact ⟨rfl, B', HX.out⟩
/-- What a step makes: the clock, how many numbers were given, the box. -/
noncomputable def stp (l r k n : Int) (s : ByteArray) (c g : Int) (b : Px.Bo) : Int × Int × Px.Bo :=
  if k = 1 then onS c g n b else if k = 2 then (c, g, (Px.startB b (1 + pk n (g + 1))).1) else if k = 3 then (c, g, (Px.feedB b (1 + pk n (g + 1)) (fedS s)).1)
  else if k = 4 then (c, g, (Px.cancelB b (1 + pk n (g + 1))).1) else if k = 5 then (c, g, Px.compB b) else if k = 6 then (c, g, Px.openB l r b.st) else (c, g, b)
theorem KI.on {b : Px.Bo} {l r : Int} {t : ByteArray} {c g : Int} (h : Px.KI b l r t c g) (n : Int) (c0 : 0 ≤ c) (c1 : c ≤ 4223371679) : Px.KI (onS c g n b).2.2 l r t (onS c g n b).1 (onS c g n b).2.1 ∧ 0 ≤ (onS c g n b).1 ∧ (onS c g n b).1 ≤ 4223371679 := by
  have hp := pk_bd n 1500 (by decide)
  unfold onS
  by_cases h1 : 4223371679 < c + 1 + pk n 1500
  · rw [if_pos h1]; exact ⟨h, c0, c1⟩
  · rw [if_neg h1]
    by_cases h2 : (Px.tickB b (c + 1 + pk n 1500)).2.2 = 0
    · rw [if_pos h2]
      obtain ⟨q1, q2⟩ := h.tick _ h2
      exact ⟨by rw [q1]; exact q2, by show 0 ≤ c + 1 + pk n 1500; omega, by show c + 1 + pk n 1500 ≤ 4223371679; omega⟩
    · rw [if_neg h2]; exact ⟨h, c0, c1⟩
theorem KI.step {b : Px.Bo} {l r : Int} {t : ByteArray} {c g : Int} (h : Px.KI b l r t c g) (k n : Int) (s : ByteArray) (c0 : 0 ≤ c) (c1 : c ≤ 4223371679) :
    Px.KI (stp l r k n s c g b).2.2 l r t (stp l r k n s c g b).1 (stp l r k n s c g b).2.1 ∧ 0 ≤ (stp l r k n s c g b).1 ∧ (stp l r k n s c g b).1 ≤ 4223371679 := by
  unfold stp
  by_cases h1 : k = 1
  · rw [if_pos h1]; exact KI.on h n c0 c1
  rw [if_neg h1]
  by_cases h2 : k = 2
  · rw [if_pos h2]; exact ⟨h.start _, c0, c1⟩
  rw [if_neg h2]
  by_cases h3 : k = 3
  · rw [if_pos h3]; exact ⟨h.feed _ _, c0, c1⟩
  rw [if_neg h3]
  by_cases h4 : k = 4
  · rw [if_pos h4]; exact ⟨h.cancel _, c0, c1⟩
  rw [if_neg h4]
  by_cases h5 : k = 5
  · rw [if_pos h5]; exact ⟨h.comp, c0, c1⟩
  rw [if_neg h5]
  by_cases h6 : k = 6
  · rw [if_pos h6]
    have hk := Px.KI.opened (kil h).2.2.2.1 h.may h.nxt
    rw [h.tab, h.clk] at hk
    exact ⟨hk, c0, c1⟩
  rw [if_neg h6]; exact ⟨h, c0, c1⟩
end Go.Proofs.YtdajolpoiffimaaGreatDoor

namespace Go.Proofs.YtdajolpoiffimaaGreatDoor
open Go.RowKit

abbrev skV (k n : Int) (s : ByteArray) : Value := .agg #[.int .i64 k, .int .i64 n, .string s]
abbrev skO (k n : Int) (s : ByteArray) : Obj := .cells #[.int .i64 k, .int .i64 n, .string s] 43
/-- What a step leaves. -/
def KStR (w0 w w' : World) (P B : Nat) (l r : Int) (t : ByteArray) (x : Int × Int × Px.Bo) : Prop := ∃ B', KW w0 w' P B' l r t x.1 x.2.1 x.2.2 ∧ Far2 w w' P B ∧ (B' = B ∨ w.heap.size ≤ B')
theorem xcancel_any (b : Px.Bo) (B : Nat) (n : Int) (w0 w : World) (hO : Px.Ok b.st) (hlg : b.log.size ≤ 10000) (hB : KB w0 w B b) :
    Calls Tryz.prog 41 #[.pointer (some ⟨B, 0, none⟩), .int .i64 n] w fun e w' => e = .returned (.int .i64 (Px.cancelB b n).2) ∧ KB w0 w' B (Px.cancelB b n).1 ∧ w.grownBy w' (some B) := by
  obtain ⟨sl, en, hp⟩ := hB.pb
  refine (pcancel_any b B n sl en w hO hlg hp).mono fun e w' h => ?_
  cases h with
  | mk _ hb hg => exact ⟨rfl, hB.grow hg hb, hg⟩
theorem xfeed2_any (b : Px.Bo) (B : Nat) (n : Int) (x : ByteArray) (w0 w : World) (hO : Px.Ok b.st) (hlg : b.log.size ≤ 10000) (hT : TT w0) (hB : KB w0 w B b) (y : ByteArray) (er : Int) (he : (Px.feedB b n x).2 = (y, er)) :
    Calls Tryz.prog 39 #[.pointer (some ⟨B, 0, none⟩), .int .i64 n, .string x] w fun e w' => e = .returned (.tuple #[.string y, .int .i64 er]) ∧ KB w0 w' B (Px.feedB b n x).1 ∧ w.grownBy w' (some B) := by
  have h := kfeed_any b B n x w0 w hO hlg hT hB
  rw [he] at h; exact h
theorem xstart2_any (b : Px.Bo) (B : Nat) (n : Int) (w0 w : World) (hO : Px.Ok b.st) (hlg : b.log.size ≤ 10000) (hT : TT w0) (hB : KB w0 w B b) (y : ByteArray) (er : Int) (he : (Px.startB b n).2 = (y, er)) :
    Calls Tryz.prog 36 #[.pointer (some ⟨B, 0, none⟩), .int .i64 n] w fun e w' => e = .returned (.tuple #[.string y, .int .i64 er]) ∧ KB w0 w' B (Px.startB b n).1 ∧ w.grownBy w' (some B) := by
  have h := kstart_any b B n w0 w hO hlg hT hB
  rw [he] at h; exact h
set_option maxRecDepth 10000 in
set_option maxHeartbeats 4000000 in
theorem kstep_1 (n : Int) (s : ByteArray) (w0 w : World) (P B : Nat) (l r : Int) (t : ByteArray) (c g : Int) (b : Px.Bo) (hn : I64 n) (hs : s.size ≤ maxLen) (c0 : 0 ≤ c) (c1 : c ≤ 4223371679) (hT : TT w0) (hk : Px.KI b l r t c g) (h : KW w0 w P B l r t c g b) :
    Calls Tryz.prog 14 #[.pointer (some ⟨P, 0, none⟩), skV 1 n s] w fun e w' => e = .returned (.bool true) ∧ KStR w0 w w' P B l r t (stp l r 1 n s c g b) := by
  have hb0 := below_alloc w (skO 1 n s)
  have ho := Cl.new w [.int .i64 1, .int .i64 n, .string s] 43
  have hW0 := h.later hb0
  have hne := h.ne
  have hBw : B < w.heap.size := h.b.typ.lt
  have HK : Hid (Px.KI b l r t c g) := hk
  have HT : Hid (TT w0) := hT
  have HN : Hid (I64 n) := hn
  have HSz : Hid (s.size ≤ maxLen) := hs
  have hg9 := kig hk
  have hll := kil hk
  clear h hk hT hn hs
  go_enter Tryz.func14, Tryz.ntmps14
  go_upto_region 1 with fail
  have ho' : Cl (w.alloc (skO 1 n s)) w.heap.size 43 [.int .i64 1, .int .i64 n, .string s] := ho
  clear ho
  have HF0 : Hid (Far2 w (w.alloc (skO 1 n s)) P B) := Far2.below hb0
  clear hb0
  generalize w.alloc (skO 1 n s) = W at *
  have HW : Hid (KW w0 W P B l r t c g b) := hW0
  have o0 : W.cell? ⟨w.heap.size, 0, none⟩ = some (.int .i64 1) := ho'.c 0 _ rfl
  have o1 : W.cell? ⟨w.heap.size, 1, none⟩ = some (.int .i64 n) := ho'.c 1 _ rfl
  have o2 : W.cell? ⟨w.heap.size, 2, none⟩ = some (.string s) := ho'.c 2 _ rfl
  have p0 : W.cell? ⟨P, 0, none⟩ = some (.pointer (some ⟨B, 0, none⟩)) := hW0.p.c 0 _ rfl
  have hPW := hW0.p.ty.lt
  have hOW := ho'.ty.lt
  clear hW0 ho'
  have HSt : Hid (stp l r 1 n s c g b = onS c g n b) := by unfold Hid stp; simp
  go_wp2_with fail
  refine (kon_any n w0 W P B l r t c g b HN.out c0 c1 HT.out HK.out HW.out).mono ?_
  rintro e w1 ⟨rfl, hW1, hF1⟩
  have HX : Hid (KStR w0 w w1 P B l r t (stp l r 1 n s c g b)) := by unfold Hid; rw [HSt.out]; exact ⟨B, hW1, HF0.out.trans hF1, Or.inl rfl⟩
  clear hW1 hF1 o0 o1 o2 p0
  go_wp2_with fail
  go_ret
  exact ⟨rfl, HX.out⟩
set_option maxRecDepth 10000 in
set_option maxHeartbeats 4000000 in
theorem kstep_2 (n : Int) (s : ByteArray) (w0 w : World) (P B : Nat) (l r : Int) (t : ByteArray) (c g : Int) (b : Px.Bo) (hn : I64 n) (hs : s.size ≤ maxLen) (_c0 : 0 ≤ c) (_c1 : c ≤ 4223371679) (hT : TT w0) (hk : Px.KI b l r t c g) (h : KW w0 w P B l r t c g b) :
    Calls Tryz.prog 14 #[.pointer (some ⟨P, 0, none⟩), skV 2 n s] w fun e w' => e = .returned (.bool true) ∧ KStR w0 w w' P B l r t (stp l r 2 n s c g b) := by
  have hb0 := below_alloc w (skO 2 n s)
  have ho := Cl.new w [.int .i64 2, .int .i64 n, .string s] 43
  have hW0 := h.later hb0
  have hne := h.ne
  have hBw : B < w.heap.size := h.b.typ.lt
  have HK : Hid (Px.KI b l r t c g) := hk
  have HT : Hid (TT w0) := hT
  have HN : Hid (I64 n) := hn
  have HSz : Hid (s.size ≤ maxLen) := hs
  have hg9 := kig hk
  have hll := kil hk
  clear h hk hT hn hs
  go_enter Tryz.func14, Tryz.ntmps14
  go_upto_region 1 with fail
  have ho' : Cl (w.alloc (skO 2 n s)) w.heap.size 43 [.int .i64 2, .int .i64 n, .string s] := ho
  clear ho
  have HF0 : Hid (Far2 w (w.alloc (skO 2 n s)) P B) := Far2.below hb0
  clear hb0
  generalize w.alloc (skO 2 n s) = W at *
  have HW : Hid (KW w0 W P B l r t c g b) := hW0
  have o0 : W.cell? ⟨w.heap.size, 0, none⟩ = some (.int .i64 2) := ho'.c 0 _ rfl
  have o1 : W.cell? ⟨w.heap.size, 1, none⟩ = some (.int .i64 n) := ho'.c 1 _ rfl
  have o2 : W.cell? ⟨w.heap.size, 2, none⟩ = some (.string s) := ho'.c 2 _ rfl
  have p0 : W.cell? ⟨P, 0, none⟩ = some (.pointer (some ⟨B, 0, none⟩)) := hW0.p.c 0 _ rfl
  have hPW := hW0.p.ty.lt
  have hOW := ho'.ty.lt
  clear hW0 ho'
  obtain ⟨N, hN⟩ : ∃ N, 1 + pk n (g + 1) = N := ⟨_, rfl⟩
  have HSt : Hid (stp l r 2 n s c g b = (c, g, (Px.startB b N).1)) := by unfold Hid stp; rw [← hN]; simp
  have HNm : Hid (∀ wq : World, KW w0 wq P B l r t c g b → Calls Tryz.prog 37 #[.pointer (some ⟨P, 0, none⟩), .int .i64 n] wq fun e w' => e = .returned (.int .i64 N) ∧ w' = wq) := fun wq hq => by rw [← hN]; exact knumber_any n w0 wq P B l r t c g b HN.out hg9.1 hg9.2 hq
  clear hN
  have HWd : Hid (KW w0 W.drew P B l r t c g b) := HW.out.later (Below.refl _ _).drew
  have HnP : Hid (some P ≠ some B) := fun e => hne (by simpa using e)
  have HnO : Hid (some w.heap.size ≠ some B) := fun e => by simp at e; omega
  have hKI2 := HK.out.start N
  have HKI2 : Hid (Px.KI (Px.startB b N).1 l r t c g) := hKI2
  have hcod := Px.start_codes b N
  have HFar : Hid _ := far_start HK.out N
  obtain ⟨y, er, hxr⟩ : ∃ y er, (Px.startB b N).2 = (y, er) := ⟨_, _, rfl⟩
  rw [hxr] at hcod HFar
  have HXR : Hid ((Px.startB b N).2 = (y, er)) := hxr
  clear hxr hKI2
  go_wp2_with fail
  go_region_held3 (fun w' => w'.cell? ⟨P, 0, none⟩ = some (.pointer (some ⟨B, 0, none⟩)) ∧ w'.cell? ⟨w.heap.size, 1, none⟩ = some (.int .i64 n) )
      (first | exact ⟨hg6.cell p0 HnP.out, hg6.cell o1 HnO.out⟩ | exact ⟨p0, o1⟩)
      ((first
        | (go_at_call 37; refine (HNm.out _ HWd.out).mono ?_; rintro e w5 ⟨rfl, rfl⟩)
        | (go_at_call 36; refine (xstart2_any b B N w0 _ HK.out.ok hll.1 HT.out HWd.out.b y er HXR.out).mono ?_; rintro e w6 ⟨rfl, hK6, hg6⟩)))
  have hW6 := HWd.out.call hK6 hg6
  have HW6 : Hid (KW w0 w6 P B l r t c g (Px.startB b N).1) := hW6
  have HX : Hid (KStR w0 w w6 P B l r t (stp l r 2 n s c g b)) := by
    unfold Hid; rw [HSt.out]
    exact ⟨B, hW6, HF0.out.trans ((Far2.below (Below.refl _ _).drew).trans (Far2.grow hg6)), Or.inl rfl⟩
  clear hW6 hK6 hg6 o0 o1 o2 p0 HNm HWd
  have hl2 := (kil HKI2.out).1
  rcases hcod with rfl | ⟨h8, h12⟩ | ⟨rfl, _⟩
  · go_wp2_with fail
    refine (kmay_any 0 18 w0 _ P B l r t c g _ (by decide) (by decide) hl2 HW6.out (fun q => HFar.out (by first | exact q | trivial))).mono ?_
    rintro e w7 ⟨rfl, hw7⟩
    have hw7s := hw7.symm
    subst hw7s
    clear hw7
    go_wp2_with fail
    go_ret
    exact ⟨rfl, HX.out⟩
  · have hn0 : ¬ er = 0 := by omega
    have hn13 : ¬ er = 13 := by omega
    go_wp2_with fail
    refine (kmay_any er 18 w0 _ P B l r t c g _ (by decide) (by decide) hl2 HW6.out (fun q => HFar.out (by first | exact q | trivial))).mono ?_
    rintro e w7 ⟨rfl, hw7⟩
    have hw7s := hw7.symm
    subst hw7s
    clear hw7
    go_wp2_with fail
    go_ret
    exact ⟨rfl, HX.out⟩
  · go_wp2_with fail
    refine (kmay_any 13 18 w0 _ P B l r t c g _ (by decide) (by decide) hl2 HW6.out (fun q => HFar.out (by first | exact q | trivial))).mono ?_
    rintro e w7 ⟨rfl, hw7⟩
    have hw7s := hw7.symm
    subst hw7s
    clear hw7
    go_wp2_with fail
    go_ret
    exact ⟨rfl, HX.out⟩
set_option maxRecDepth 10000 in
set_option maxHeartbeats 4000000 in
theorem kstep_3 (n : Int) (s : ByteArray) (w0 w : World) (P B : Nat) (l r : Int) (t : ByteArray) (c g : Int) (b : Px.Bo) (hn : I64 n) (hs : s.size ≤ maxLen) (_c0 : 0 ≤ c) (_c1 : c ≤ 4223371679) (hT : TT w0) (hk : Px.KI b l r t c g) (h : KW w0 w P B l r t c g b) :
    Calls Tryz.prog 14 #[.pointer (some ⟨P, 0, none⟩), skV 3 n s] w fun e w' => e = .returned (.bool true) ∧ KStR w0 w w' P B l r t (stp l r 3 n s c g b) := by
  have hb0 := below_alloc w (skO 3 n s)
  have ho := Cl.new w [.int .i64 3, .int .i64 n, .string s] 43
  have hW0 := h.later hb0
  have hne := h.ne
  have hBw : B < w.heap.size := h.b.typ.lt
  have HK : Hid (Px.KI b l r t c g) := hk
  have HT : Hid (TT w0) := hT
  have HN : Hid (I64 n) := hn
  have HSz : Hid (s.size ≤ maxLen) := hs
  have hg9 := kig hk
  have hll := kil hk
  clear h hk hT hn hs
  go_enter Tryz.func14, Tryz.ntmps14
  go_upto_region 1 with fail
  have ho' : Cl (w.alloc (skO 3 n s)) w.heap.size 43 [.int .i64 3, .int .i64 n, .string s] := ho
  clear ho
  have HF0 : Hid (Far2 w (w.alloc (skO 3 n s)) P B) := Far2.below hb0
  clear hb0
  generalize w.alloc (skO 3 n s) = W at *
  have HW : Hid (KW w0 W P B l r t c g b) := hW0
  have o0 : W.cell? ⟨w.heap.size, 0, none⟩ = some (.int .i64 3) := ho'.c 0 _ rfl
  have o1 : W.cell? ⟨w.heap.size, 1, none⟩ = some (.int .i64 n) := ho'.c 1 _ rfl
  have o2 : W.cell? ⟨w.heap.size, 2, none⟩ = some (.string s) := ho'.c 2 _ rfl
  have p0 : W.cell? ⟨P, 0, none⟩ = some (.pointer (some ⟨B, 0, none⟩)) := hW0.p.c 0 _ rfl
  have hPW := hW0.p.ty.lt
  have hOW := ho'.ty.lt
  clear hW0 ho'
  obtain ⟨N, hN⟩ : ∃ N, 1 + pk n (g + 1) = N := ⟨_, rfl⟩
  have HSt : Hid (stp l r 3 n s c g b = (c, g, (Px.feedB b N (fedS s)).1)) := by unfold Hid stp; rw [← hN]; simp
  have HNm : Hid (∀ wq : World, KW w0 wq P B l r t c g b → Calls Tryz.prog 37 #[.pointer (some ⟨P, 0, none⟩), .int .i64 n] wq fun e w' => e = .returned (.int .i64 N) ∧ w' = wq) := fun wq hq => by rw [← hN]; exact knumber_any n w0 wq P B l r t c g b HN.out hg9.1 hg9.2 hq
  clear hN
  have HWd : Hid (KW w0 W.drew P B l r t c g b) := HW.out.later (Below.refl _ _).drew
  have HnP : Hid (some P ≠ some B) := fun e => hne (by simpa using e)
  have HnO : Hid (some w.heap.size ≠ some B) := fun e => by simp at e; omega
  have hKI2 := HK.out.feed N (fedS s)
  have HKI2 : Hid (Px.KI (Px.feedB b N (fedS s)).1 l r t c g) := hKI2
  have hcod := Px.feed_codes b N (fedS s) (fedS_le s)
  have HFar : Hid _ := far_feed HK.out N (fedS s) (fedS_le s)
  obtain ⟨y, er, hxr⟩ : ∃ y er, (Px.feedB b N (fedS s)).2 = (y, er) := ⟨_, _, rfl⟩
  rw [hxr] at hcod HFar
  have HXR : Hid ((Px.feedB b N (fedS s)).2 = (y, er)) := hxr
  clear hxr hKI2
  go_wp2_with fail
  go_region_held3 (fun w' => w'.cell? ⟨P, 0, none⟩ = some (.pointer (some ⟨B, 0, none⟩)) ∧ w'.cell? ⟨w.heap.size, 1, none⟩ = some (.int .i64 n) ∧ w'.cell? ⟨w.heap.size, 2, none⟩ = some (.string s))
      (first | exact ⟨hg6.cell p0 HnP.out, hg6.cell o1 HnO.out, hg6.cell o2 HnO.out⟩ | exact ⟨p0, o1, o2⟩)
      ((first
        | (go_at_call 37; refine (HNm.out _ HWd.out).mono ?_; rintro e w5 ⟨rfl, rfl⟩)
        | (go_at_call 40; refine (kfed_any s _ HSz.out).mono ?_; rintro e w5 ⟨rfl, rfl⟩)
        | (go_at_call 39; refine (xfeed2_any b B N (fedS s) w0 _ HK.out.ok hll.1 HT.out HWd.out.b y er HXR.out).mono ?_; rintro e w6 ⟨rfl, hK6, hg6⟩)))
  have hW6 := HWd.out.call hK6 hg6
  have HW6 : Hid (KW w0 w6 P B l r t c g (Px.feedB b N (fedS s)).1) := hW6
  have HX : Hid (KStR w0 w w6 P B l r t (stp l r 3 n s c g b)) := by
    unfold Hid; rw [HSt.out]
    exact ⟨B, hW6, HF0.out.trans ((Far2.below (Below.refl _ _).drew).trans (Far2.grow hg6)), Or.inl rfl⟩
  clear hW6 hK6 hg6 o0 o1 o2 p0 HNm HWd
  have hl2 := (kil HKI2.out).1
  rcases hcod with rfl | rfl | rfl | ⟨rfl, _⟩
  · go_wp2_with fail
    refine (kmay_any 0 9 w0 _ P B l r t c g _ (by decide) (by decide) hl2 HW6.out (fun q => HFar.out (by first | exact q | trivial))).mono ?_
    rintro e w7 ⟨rfl, hw7⟩
    have hw7s := hw7.symm
    subst hw7s
    clear hw7
    go_wp2_with fail
    go_ret
    exact ⟨rfl, HX.out⟩
  · go_wp2_with fail
    refine (kmay_any 8 9 w0 _ P B l r t c g _ (by decide) (by decide) hl2 HW6.out (fun q => HFar.out (by first | exact q | trivial))).mono ?_
    rintro e w7 ⟨rfl, hw7⟩
    have hw7s := hw7.symm
    subst hw7s
    clear hw7
    go_wp2_with fail
    go_ret
    exact ⟨rfl, HX.out⟩
  · go_wp2_with fail
    refine (kmay_any 9 9 w0 _ P B l r t c g _ (by decide) (by decide) hl2 HW6.out (fun q => HFar.out (by first | exact q | trivial))).mono ?_
    rintro e w7 ⟨rfl, hw7⟩
    have hw7s := hw7.symm
    subst hw7s
    clear hw7
    go_wp2_with fail
    go_ret
    exact ⟨rfl, HX.out⟩
  · go_wp2_with fail
    refine (kmay_any 13 9 w0 _ P B l r t c g _ (by decide) (by decide) hl2 HW6.out (fun q => HFar.out (by first | exact q | trivial))).mono ?_
    rintro e w7 ⟨rfl, hw7⟩
    have hw7s := hw7.symm
    subst hw7s
    clear hw7
    go_wp2_with fail
    go_ret
    exact ⟨rfl, HX.out⟩
set_option maxRecDepth 10000 in
set_option maxHeartbeats 4000000 in
theorem kstep_4 (n : Int) (s : ByteArray) (w0 w : World) (P B : Nat) (l r : Int) (t : ByteArray) (c g : Int) (b : Px.Bo) (hn : I64 n) (hs : s.size ≤ maxLen) (_c0 : 0 ≤ c) (_c1 : c ≤ 4223371679) (hT : TT w0) (hk : Px.KI b l r t c g) (h : KW w0 w P B l r t c g b) :
    Calls Tryz.prog 14 #[.pointer (some ⟨P, 0, none⟩), skV 4 n s] w fun e w' => e = .returned (.bool true) ∧ KStR w0 w w' P B l r t (stp l r 4 n s c g b) := by
  have hb0 := below_alloc w (skO 4 n s)
  have ho := Cl.new w [.int .i64 4, .int .i64 n, .string s] 43
  have hW0 := h.later hb0
  have hne := h.ne
  have hBw : B < w.heap.size := h.b.typ.lt
  have HK : Hid (Px.KI b l r t c g) := hk
  have HT : Hid (TT w0) := hT
  have HN : Hid (I64 n) := hn
  have HSz : Hid (s.size ≤ maxLen) := hs
  have hg9 := kig hk
  have hll := kil hk
  clear h hk hT hn hs
  go_enter Tryz.func14, Tryz.ntmps14
  go_upto_region 1 with fail
  have ho' : Cl (w.alloc (skO 4 n s)) w.heap.size 43 [.int .i64 4, .int .i64 n, .string s] := ho
  clear ho
  have HF0 : Hid (Far2 w (w.alloc (skO 4 n s)) P B) := Far2.below hb0
  clear hb0
  generalize w.alloc (skO 4 n s) = W at *
  have HW : Hid (KW w0 W P B l r t c g b) := hW0
  have o0 : W.cell? ⟨w.heap.size, 0, none⟩ = some (.int .i64 4) := ho'.c 0 _ rfl
  have o1 : W.cell? ⟨w.heap.size, 1, none⟩ = some (.int .i64 n) := ho'.c 1 _ rfl
  have o2 : W.cell? ⟨w.heap.size, 2, none⟩ = some (.string s) := ho'.c 2 _ rfl
  have p0 : W.cell? ⟨P, 0, none⟩ = some (.pointer (some ⟨B, 0, none⟩)) := hW0.p.c 0 _ rfl
  have hPW := hW0.p.ty.lt
  have hOW := ho'.ty.lt
  clear hW0 ho'
  obtain ⟨N, hN⟩ : ∃ N, 1 + pk n (g + 1) = N := ⟨_, rfl⟩
  have HSt : Hid (stp l r 4 n s c g b = (c, g, (Px.cancelB b N).1)) := by unfold Hid stp; rw [← hN]; simp
  have HNm : Hid (∀ wq : World, KW w0 wq P B l r t c g b → Calls Tryz.prog 37 #[.pointer (some ⟨P, 0, none⟩), .int .i64 n] wq fun e w' => e = .returned (.int .i64 N) ∧ w' = wq) := fun wq hq => by rw [← hN]; exact knumber_any n w0 wq P B l r t c g b HN.out hg9.1 hg9.2 hq
  clear hN
  have HWd : Hid (KW w0 W.drew P B l r t c g b) := HW.out.later (Below.refl _ _).drew
  have HnP : Hid (some P ≠ some B) := fun e => hne (by simpa using e)
  have HnO : Hid (some w.heap.size ≠ some B) := fun e => by simp at e; omega
  have hKI2 := HK.out.cancel N
  have HKI2 : Hid (Px.KI (Px.cancelB b N).1 l r t c g) := hKI2
  have hcod := Px.cancel_codes b N
  have HFar : Hid _ := far_cancel HK.out N
  obtain ⟨er, hxr⟩ : ∃ er, (Px.cancelB b N).2 = er := ⟨_, rfl⟩
  rw [hxr] at hcod HFar
  have HXR : Hid ((Px.cancelB b N).2 = er) := hxr
  clear hxr hKI2
  go_wp2_with fail
  go_region_held3 (fun w' => w'.cell? ⟨P, 0, none⟩ = some (.pointer (some ⟨B, 0, none⟩)) ∧ w'.cell? ⟨w.heap.size, 1, none⟩ = some (.int .i64 n) )
      (first | exact ⟨hg6.cell p0 HnP.out, hg6.cell o1 HnO.out⟩ | exact ⟨p0, o1⟩)
      ((first
        | (go_at_call 37; refine (HNm.out _ HWd.out).mono ?_; rintro e w5 ⟨rfl, rfl⟩)
        | (go_at_call 41; refine (xcancel_any b B N w0 _ HK.out.ok hll.1 HWd.out.b).mono ?_; rw [HXR.out]; rintro e w6 ⟨rfl, hK6, hg6⟩)))
  have hW6 := HWd.out.call hK6 hg6
  have HW6 : Hid (KW w0 w6 P B l r t c g (Px.cancelB b N).1) := hW6
  have HX : Hid (KStR w0 w w6 P B l r t (stp l r 4 n s c g b)) := by
    unfold Hid; rw [HSt.out]
    exact ⟨B, hW6, HF0.out.trans ((Far2.below (Below.refl _ _).drew).trans (Far2.grow hg6)), Or.inl rfl⟩
  clear hW6 hK6 hg6 o0 o1 o2 p0 HNm HWd
  have hl2 := (kil HKI2.out).1
  rcases hcod with rfl | rfl | ⟨rfl, _⟩
  · go_wp2_with fail
    refine (kmay_any 0 9 w0 _ P B l r t c g _ (by decide) (by decide) hl2 HW6.out (fun q => HFar.out (by first | exact q | trivial))).mono ?_
    rintro e w7 ⟨rfl, hw7⟩
    have hw7s := hw7.symm
    subst hw7s
    clear hw7
    go_wp2_with fail
    go_ret
    exact ⟨rfl, HX.out⟩
  · go_wp2_with fail
    refine (kmay_any 8 9 w0 _ P B l r t c g _ (by decide) (by decide) hl2 HW6.out (fun q => HFar.out (by first | exact q | trivial))).mono ?_
    rintro e w7 ⟨rfl, hw7⟩
    have hw7s := hw7.symm
    subst hw7s
    clear hw7
    go_wp2_with fail
    go_ret
    exact ⟨rfl, HX.out⟩
  · go_wp2_with fail
    refine (kmay_any 13 9 w0 _ P B l r t c g _ (by decide) (by decide) hl2 HW6.out (fun q => HFar.out (by first | exact q | trivial))).mono ?_
    rintro e w7 ⟨rfl, hw7⟩
    have hw7s := hw7.symm
    subst hw7s
    clear hw7
    go_wp2_with fail
    go_ret
    exact ⟨rfl, HX.out⟩
set_option maxRecDepth 10000 in
set_option maxHeartbeats 4000000 in
theorem kstep_5 (n : Int) (s : ByteArray) (w0 w : World) (P B : Nat) (l r : Int) (t : ByteArray) (c g : Int) (b : Px.Bo) (hn : I64 n) (hs : s.size ≤ maxLen) (_c0 : 0 ≤ c) (_c1 : c ≤ 4223371679) (hT : TT w0) (hk : Px.KI b l r t c g) (h : KW w0 w P B l r t c g b) :
    Calls Tryz.prog 14 #[.pointer (some ⟨P, 0, none⟩), skV 5 n s] w fun e w' => e = .returned (.bool true) ∧ KStR w0 w w' P B l r t (stp l r 5 n s c g b) := by
  have hb0 := below_alloc w (skO 5 n s)
  have ho := Cl.new w [.int .i64 5, .int .i64 n, .string s] 43
  have hW0 := h.later hb0
  have hne := h.ne
  have hBw : B < w.heap.size := h.b.typ.lt
  have HK : Hid (Px.KI b l r t c g) := hk
  have HT : Hid (TT w0) := hT
  have HN : Hid (I64 n) := hn
  have HSz : Hid (s.size ≤ maxLen) := hs
  have hg9 := kig hk
  have hll := kil hk
  clear h hk hT hn hs
  go_enter Tryz.func14, Tryz.ntmps14
  go_upto_region 1 with fail
  have ho' : Cl (w.alloc (skO 5 n s)) w.heap.size 43 [.int .i64 5, .int .i64 n, .string s] := ho
  clear ho
  have HF0 : Hid (Far2 w (w.alloc (skO 5 n s)) P B) := Far2.below hb0
  clear hb0
  generalize w.alloc (skO 5 n s) = W at *
  have HW : Hid (KW w0 W P B l r t c g b) := hW0
  have o0 : W.cell? ⟨w.heap.size, 0, none⟩ = some (.int .i64 5) := ho'.c 0 _ rfl
  have o1 : W.cell? ⟨w.heap.size, 1, none⟩ = some (.int .i64 n) := ho'.c 1 _ rfl
  have o2 : W.cell? ⟨w.heap.size, 2, none⟩ = some (.string s) := ho'.c 2 _ rfl
  have p0 : W.cell? ⟨P, 0, none⟩ = some (.pointer (some ⟨B, 0, none⟩)) := hW0.p.c 0 _ rfl
  have hPW := hW0.p.ty.lt
  have hOW := ho'.ty.lt
  clear hW0 ho'
  have HSt : Hid (stp l r 5 n s c g b = (c, g, Px.compB b)) := by unfold Hid stp; simp
  go_wp2_with fail
  refine (kcompact_any b B w0 _ HK.out.may HW.out.b).mono ?_
  have hz : 18 ≤ (Px.compB b).log.size := Px.whole_ge _
  have hz2 : (Px.compB b).log.size ≤ 456 := Px.whole_le HK.out.may
  rintro e w1 ⟨rfl, hK1, hg1⟩
  have HX : Hid (KStR w0 w w1 P B l r t (stp l r 5 n s c g b)) := by unfold Hid; rw [HSt.out]; exact ⟨B, HW.out.call hK1 hg1, HF0.out.trans (Far2.grow hg1), Or.inl rfl⟩
  clear hK1 hg1 o0 o1 o2 p0 HSt
  have hz3 : (0 : Int) < ((Px.compB b).log.size : Int) := by omega
  generalize ((Px.compB b).log.size : Int) = zz at *
  have hd : decide (0 < zz) = true := decide_eq_true hz3
  go_wp2_with fail
  go_ret
  exact ⟨rfl, HX.out⟩
set_option maxRecDepth 10000 in
set_option maxHeartbeats 4000000 in
theorem kstep_6 (n : Int) (s : ByteArray) (w0 w : World) (P B : Nat) (l r : Int) (t : ByteArray) (c g : Int) (b : Px.Bo) (hn : I64 n) (hs : s.size ≤ maxLen) (_c0 : 0 ≤ c) (_c1 : c ≤ 4223371679) (hT : TT w0) (hk : Px.KI b l r t c g) (h : KW w0 w P B l r t c g b) :
    Calls Tryz.prog 14 #[.pointer (some ⟨P, 0, none⟩), skV 6 n s] w fun e w' => e = .returned (.bool true) ∧ KStR w0 w w' P B l r t (stp l r 6 n s c g b) := by
  have hb0 := below_alloc w (skO 6 n s)
  have ho := Cl.new w [.int .i64 6, .int .i64 n, .string s] 43
  have hW0 := h.later hb0
  have hne := h.ne
  have hBw : B < w.heap.size := h.b.typ.lt
  have HK : Hid (Px.KI b l r t c g) := hk
  have HT : Hid (TT w0) := hT
  have HN : Hid (I64 n) := hn
  have HSz : Hid (s.size ≤ maxLen) := hs
  have hg9 := kig hk
  have hll := kil hk
  clear h hk hT hn hs
  go_enter Tryz.func14, Tryz.ntmps14
  go_upto_region 1 with fail
  have ho' : Cl (w.alloc (skO 6 n s)) w.heap.size 43 [.int .i64 6, .int .i64 n, .string s] := ho
  clear ho
  have HF0 : Hid (Far2 w (w.alloc (skO 6 n s)) P B) := Far2.below hb0
  clear hb0
  generalize w.alloc (skO 6 n s) = W at *
  have HW : Hid (KW w0 W P B l r t c g b) := hW0
  have o0 : W.cell? ⟨w.heap.size, 0, none⟩ = some (.int .i64 6) := ho'.c 0 _ rfl
  have o1 : W.cell? ⟨w.heap.size, 1, none⟩ = some (.int .i64 n) := ho'.c 1 _ rfl
  have o2 : W.cell? ⟨w.heap.size, 2, none⟩ = some (.string s) := ho'.c 2 _ rfl
  have p0 : W.cell? ⟨P, 0, none⟩ = some (.pointer (some ⟨B, 0, none⟩)) := hW0.p.c 0 _ rfl
  have hPW := hW0.p.ty.lt
  have hOW := ho'.ty.lt
  clear hW0 ho'
  have HSt : Hid (stp l r 6 n s c g b = (c, g, Px.openB l r b.st)) := by unfold Hid stp; simp
  go_wp2_with fail
  refine (kwopen_any w0 W P B l r t c g b HT.out HK.out HW.out).mono ?_
  rintro e w1 ⟨rfl, B', hW1, hF1, hB1⟩
  have HX : Hid (KStR w0 w w1 P B l r t (stp l r 6 n s c g b)) := by unfold Hid; rw [HSt.out]; exact ⟨B', hW1, HF0.out.trans hF1, Or.inr (Nat.le_trans HF0.out.sz hB1)⟩
  clear hW1 hF1 hB1 o0 o1 o2 p0
  go_wp2_with fail
  go_ret
  exact ⟨rfl, HX.out⟩
set_option maxRecDepth 10000 in
set_option maxHeartbeats 4000000 in
theorem kstep_o (k n : Int) (s : ByteArray) (w0 w : World) (P B : Nat) (l r : Int) (t : ByteArray) (c g : Int) (b : Px.Bo) (hn : I64 n) (hs : s.size ≤ maxLen) (_c0 : 0 ≤ c) (_c1 : c ≤ 4223371679) (hT : TT w0) (hk : Px.KI b l r t c g) (h : KW w0 w P B l r t c g b) (k1 : ¬ k = 1) (k2 : ¬ k = 2) (k3 : ¬ k = 3) (k4 : ¬ k = 4) (k5 : ¬ k = 5) (k6 : ¬ k = 6) :
    Calls Tryz.prog 14 #[.pointer (some ⟨P, 0, none⟩), skV k n s] w fun e w' => e = .returned (.bool true) ∧ KStR w0 w w' P B l r t (stp l r k n s c g b) := by
  have hb0 := below_alloc w (skO k n s)
  have ho := Cl.new w [.int .i64 k, .int .i64 n, .string s] 43
  have hW0 := h.later hb0
  have hne := h.ne
  have hBw : B < w.heap.size := h.b.typ.lt
  have HK : Hid (Px.KI b l r t c g) := hk
  have HT : Hid (TT w0) := hT
  have HN : Hid (I64 n) := hn
  have HSz : Hid (s.size ≤ maxLen) := hs
  have hg9 := kig hk
  have hll := kil hk
  clear h hk hT hn hs
  go_enter Tryz.func14, Tryz.ntmps14
  go_upto_region 1 with fail
  have ho' : Cl (w.alloc (skO k n s)) w.heap.size 43 [.int .i64 k, .int .i64 n, .string s] := ho
  clear ho
  have HF0 : Hid (Far2 w (w.alloc (skO k n s)) P B) := Far2.below hb0
  clear hb0
  generalize w.alloc (skO k n s) = W at *
  have HW : Hid (KW w0 W P B l r t c g b) := hW0
  have o0 : W.cell? ⟨w.heap.size, 0, none⟩ = some (.int .i64 k) := ho'.c 0 _ rfl
  have o1 : W.cell? ⟨w.heap.size, 1, none⟩ = some (.int .i64 n) := ho'.c 1 _ rfl
  have o2 : W.cell? ⟨w.heap.size, 2, none⟩ = some (.string s) := ho'.c 2 _ rfl
  have p0 : W.cell? ⟨P, 0, none⟩ = some (.pointer (some ⟨B, 0, none⟩)) := hW0.p.c 0 _ rfl
  have hPW := hW0.p.ty.lt
  have hOW := ho'.ty.lt
  clear hW0 ho'
  have HSt : Hid (stp l r k n s c g b = (c, g, b)) := by unfold Hid stp; rw [if_neg k1, if_neg k2, if_neg k3, if_neg k4, if_neg k5, if_neg k6]
  have HX : Hid (KStR w0 w W P B l r t (stp l r k n s c g b)) := by unfold Hid; rw [HSt.out]; exact ⟨B, HW.out, HF0.out, Or.inl rfl⟩
  go_wp2_with fail
  go_ret
  exact ⟨rfl, HX.out⟩
theorem kstep_any (k n : Int) (s : ByteArray) (w0 w : World) (P B : Nat) (l r : Int) (t : ByteArray) (c g : Int) (b : Px.Bo) (hn : I64 n) (hs : s.size ≤ maxLen) (c0 : 0 ≤ c) (c1 : c ≤ 4223371679) (hT : TT w0) (hk : Px.KI b l r t c g) (h : KW w0 w P B l r t c g b) :
    Calls Tryz.prog 14 #[.pointer (some ⟨P, 0, none⟩), skV k n s] w fun e w' => e = .returned (.bool true) ∧ KStR w0 w w' P B l r t (stp l r k n s c g b) := by
  by_cases k1 : k = 1
  · subst k1; exact kstep_1 n s w0 w P B l r t c g b hn hs c0 c1 hT hk h
  by_cases k2 : k = 2
  · subst k2; exact kstep_2 n s w0 w P B l r t c g b hn hs c0 c1 hT hk h
  by_cases k3 : k = 3
  · subst k3; exact kstep_3 n s w0 w P B l r t c g b hn hs c0 c1 hT hk h
  by_cases k4 : k = 4
  · subst k4; exact kstep_4 n s w0 w P B l r t c g b hn hs c0 c1 hT hk h
  by_cases k5 : k = 5
  · subst k5; exact kstep_5 n s w0 w P B l r t c g b hn hs c0 c1 hT hk h
  by_cases k6 : k = 6
  · subst k6; exact kstep_6 n s w0 w P B l r t c g b hn hs c0 c1 hT hk h
  exact kstep_o k n s w0 w P B l r t c g b hn hs c0 c1 hT hk h k1 k2 k3 k4 k5 k6
end Go.Proofs.YtdajolpoiffimaaGreatDoor

namespace Go.Proofs.YtdajolpoiffimaaGreatDoor
open Go.RowKit

/-- The book in memory. -/
structure KBk (w0 w : World) (Q : Nat) (v : Value) (K : List ByteArray) : Prop where
  c : Cl w Q 49 [v]
  own : w.ownsRow w0.heap.size 9 1 v K.length (K.map Value.string)
  lo : w0.heap.size ≤ Q
theorem KBk.later {w0 w w' : World} {Q : Nat} {v : Value} {K : List ByteArray} (h : KBk w0 w Q v K) (hb : Below w.heap.size w w') : KBk w0 w' Q v K := ⟨h.c.later hb, own_below h.own hb, h.lo⟩
theorem KBk.far2 {w0 w w' : World} {Q P B : Nat} {v : Value} {K : List ByteArray} (h : KBk w0 w Q v K) (hf : Far2 w w' P B) (hP : Typed w P 71) (hB : Typed w B 67) : KBk w0 w' Q v K :=
  ⟨h.c.far2 hf (typed_ne h.c.ty hP (by decide)) (typed_ne h.c.ty hB (by decide)), own_far h.own fun g hg => hf.blk g hg.lt (typed_ne hg hP (by decide)) (typed_ne hg hB (by decide)), h.lo⟩
/-- All that sees works on, but for the row. -/
structure See (w0 w : World) (P B Q q : Nat) (l r : Int) (t : ByteArray) (c g : Int) (b : Px.Bo) (v : Value) (x : Kp.Sn) (sl en : Value) : Prop where
  kw : KW w0 w P B l r t c g b
  k : Cl w Q 49 [v]
  lo : w0.heap.size ≤ Q
  s : Cl w q 82 (snC x sl en)
  a : SnAt w x sl en
section
variable {w0 w w' : World} {P B Q q : Nat} {l r : Int} {t : ByteArray} {c g : Int} {b : Px.Bo} {v v' : Value} {x : Kp.Sn} {sl en : Value}
theorem See.later (h : See w0 w P B Q q l r t c g b v x sl en) (hb : Below w.heap.size w w') : See w0 w' P B Q q l r t c g b v x sl en := ⟨h.kw.later hb, h.k.later hb, h.lo, h.s.later hb, h.a.later hb⟩
/-- The row has grown, or was written. -/
theorem See.grown (h : See w0 w P B Q q l r t c g b v x sl en) {n : Nat} {u : Value} {xs : List Value} (ho : w.ownsRow w0.heap.size 9 1 u n xs) (hg : w.grownBy w' u.ownBlock) : See w0 w' P B Q q l r t c g b v x sl en := by
  rcases ho.2 with ⟨rfl, _⟩ | ⟨k, cap, cur, rfl, hge, hk, _⟩
  · have hb : Below w.heap.size w w' := ⟨hg.os, hg.tape, hg.output, hg.size, fun k hk => hg.block k hk (fun e => by cases e)⟩
    exact h.later hb
  · have hg' : w.grownBy w' (some k) := hg
    have hty : Typed w k 9 := ⟨cur, (0, 0), hk⟩
    exact ⟨h.kw.grow' hg' hty hge (by decide) (by decide) (by decide) (by decide), h.k.grow hg' (typed_ne h.k.ty hty (by decide)), h.lo, h.s.grow hg' (typed_ne h.s.ty hty (by decide)), h.a.grow' hg' hty (by decide) (by decide)⟩
/-- The book is written. -/
theorem See.put (h : See w0 w P B Q q l r t c g b v x sl en) (v' : Value) : See w0 (w.setCell ⟨Q, 0, none⟩ v') P B Q q l r t c g b v' x sl en := by
  have hg : w.grownBy (w.setCell ⟨Q, 0, none⟩ v') (some Q) := grow_set (grow_refl w (some Q)) 0 v'
  exact ⟨h.kw.grow' hg h.k.ty h.lo (by decide) (by decide) (by decide) (by decide), h.k.set 0 (by simp) v', h.lo, h.s.grow hg (typed_ne h.s.ty h.k.ty (by decide)), h.a.grow' hg h.k.ty (by decide) (by decide)⟩
theorem own_put {n : Nat} {u : Value} {xs : List Value} {base : Nat} (hQ : Typed w Q 49) (ho : w.ownsRow base 9 1 u n xs) (y : Value) : (w.setCell ⟨Q, 0, none⟩ y).ownsRow base 9 1 u n xs :=
  own_far ho fun k hk => Below.heap_setCell _ _ _ _ (typed_ne hk hQ (by decide))
theorem See.bk (h : See w0 w P B Q q l r t c g b v x sl en) {K : List ByteArray} (ho : w.ownsRow w0.heap.size 9 1 v K.length (K.map Value.string)) : KBk w0 w Q v K := ⟨h.k, ho, h.lo⟩
end
end Go.Proofs.YtdajolpoiffimaaGreatDoor

namespace Go.Proofs.YtdajolpoiffimaaGreatDoor
open Go.RowKit

set_option maxRecDepth 10000 in
set_option maxHeartbeats 4000000 in
theorem kheld_any (w0 w : World) (P B : Nat) (l r : Int) (t : ByteArray) (c g : Int) (b : Px.Bo) (hts : t.size ≤ 300) (hk : Px.KI b l r t c g) (hE : SlotsOk t l (Kp.snOf b.st)) (h : KW w0 w P B l r t c g b) :
    Calls Tryz.prog 13 #[.pointer (some ⟨P, 0, none⟩)] w fun e w' => e = .returned (.bool true) ∧ Below w.heap.size w w' := by
  have HW : Hid (KW w0 w P B l r t c g b) := h
  have HK : Hid (Px.KI b l r t c g) := hk
  have HE : Hid (SlotsOk t l (Kp.snOf b.st)) := hE
  have c0 : w.cell? ⟨P, 0, none⟩ = some (.pointer (some ⟨B, 0, none⟩)) := h.p.c 0 _ rfl
  have hP := h.p.ty.lt
  have hl8 : (Kp.snOf b.st).slots.length ≤ 8 := by have := hk.ok.len; simpa [Kp.snOf] using this
  have he6 : (Kp.snOf b.st).ends.length ≤ 10000 := by have : b.st.ends.length ≤ 6 := hk.ok.st.en; exact Nat.le_trans this (by decide)
  have hc1 : -1 ≤ (Kp.snOf b.st).clock := hk.may.c1
  have hc2 : (Kp.snOf b.st).clock ≤ 4223371679 := hk.may.c2
  have HX : Hid ((Kp.snOf b.st).clock = c ∧ (Kp.snOf b.st).next = 1 + g ∧ (Kp.snOf b.st).tab = t) := ⟨hk.clk, hk.nxt, hk.tab⟩
  have HEn : Hid (EndsOk (Kp.snOf b.st)) := ends_ok hk.may
  clear h hk hE
  go_enter Tryz.func13, Tryz.ntmps13
  go_wp2_with fail
  refine (ksnap_any b B w HK.out.ok HW.out.b.pb).mono ?_
  generalize Kp.snOf b.st = x at *
  rintro e w1 ⟨⟨sl, en, rfl, hA⟩, hb1⟩
  obtain ⟨ad, cap, rfl, hcap⟩ := hA.sl.form
  obtain ⟨ad2, cap2, rfl, hcap2⟩ := hA.en.form
  have hb2 := hb1.trans ((below_alloc w1 (snO x (.slice ad x.slots.length cap) (.slice ad2 x.ends.length cap2))).mono hb1.size)
  have hI := Cl.new w1 (snC x (.slice ad x.slots.length cap) (.slice ad2 x.ends.length cap2)) 82
  have hA2 := hA.later (below_alloc w1 (snO x (.slice ad x.slots.length cap) (.slice ad2 x.ends.length cap2)))
  clear hA hb1
  go_upto_region 4 with fail
  have hI' : Cl (w1.alloc (snO x (.slice ad x.slots.length cap) (.slice ad2 x.ends.length cap2))) w1.heap.size 82 (snC x (.slice ad x.slots.length cap) (.slice ad2 x.ends.length cap2)) := hI
  clear hI c0
  generalize w1.alloc (snO x (.slice ad x.slots.length cap) (.slice ad2 x.ends.length cap2)) = W at *
  generalize w1.heap.size = q at *
  have HB : Hid (Below w.heap.size w W) := hb2
  have HA : Hid (SnAt W x (.slice ad x.slots.length cap) (.slice ad2 x.ends.length cap2)) := hA2
  have HI : Hid (Cl W q 82 (snC x (.slice ad x.slots.length cap) (.slice ad2 x.ends.length cap2))) := hI'
  have HW2 : Hid (KW w0 W P B l r t c g b) := HW.out.later hb2
  have i0 := hI'.c 0 _ rfl; have i1 := hI'.c 1 _ rfl; have i2 := hI'.c 2 _ rfl; have i3 := hI'.c 3 _ rfl; have i4 := hI'.c 4 _ rfl; have i5 := hI'.c 5 _ rfl; have i6 := hI'.c 6 _ rfl
  have hq := hI'.ty.lt
  clear hb2 hA2 hI' HW
  go_wp2_with fail
  refine (kslots_any x _ _ w0 W P B l r t c g b hl8 hts hc1 hc2 HE.out HA.out HW2.out).mono ?_
  rintro e w3 ⟨rfl, hb3⟩
  have HB3 : Hid (Below w.heap.size w w3) := HB.out.trans (hb3.mono HB.out.size)
  have HA3 : Hid (SnAt w3 x (.slice ad x.slots.length cap) (.slice ad2 x.ends.length cap2)) := HA.out.later hb3
  have hI3 := HI.out.later hb3
  have HI3 : Hid (Cl w3 q 82 (snC x (.slice ad x.slots.length cap) (.slice ad2 x.ends.length cap2))) := hI3
  have HW3 : Hid (KW w0 w3 P B l r t c g b) := HW2.out.later hb3
  clear i0 i1 i2 i3 i4 i5 i6 hq hb3 HB HA HI HW2
  have i0 := hI3.c 0 _ rfl; have i1 := hI3.c 1 _ rfl; have i2 := hI3.c 2 _ rfl; have i3 := hI3.c 3 _ rfl; have i4 := hI3.c 4 _ rfl; have i5 := hI3.c 5 _ rfl; have i6 := hI3.c 6 _ rfl
  have hq := hI3.ty.lt
  clear hI3
  go_wp2_with fail
  refine (kends_any x _ _ P w3 (by omega) he6 HEn.out HA3.out).mono ?_
  rintro e w4 ⟨rfl, hb4⟩
  have HB4 : Hid (Below w.heap.size w w4) := HB3.out.trans (hb4.mono HB3.out.size)
  have hI4 := HI3.out.later hb4
  have hW4 := HW3.out.later hb4
  clear i0 i1 i2 i3 i4 i5 i6 hq hb4 HB3 HA3 HI3 HW3
  have i0 : w4.cell? ⟨q, 0, none⟩ = some (.int .i64 c) := by rw [← HX.out.1]; exact hI4.c 0 _ rfl
  have i1 : w4.cell? ⟨q, 1, none⟩ = some (.int .i64 (1 + g)) := by rw [← HX.out.2.1]; exact hI4.c 1 _ rfl
  have i4 : w4.cell? ⟨q, 4, none⟩ = some (.string t) := by rw [← HX.out.2.2]; exact hI4.c 4 _ rfl
  have d3 : w4.cell? ⟨P, 3, none⟩ = some (.string t) := hW4.p.c 3 _ rfl
  have d4 : w4.cell? ⟨P, 4, none⟩ = some (.int .i64 c) := hW4.p.c 4 _ rfl
  have d5 : w4.cell? ⟨P, 5, none⟩ = some (.int .i64 g) := hW4.p.c 5 _ rfl
  have hq := hI4.ty.lt
  have hP4 := hW4.p.ty.lt
  have hgg := kig HK.out
  have wr1 : IntKind.i64.wrap (1 + g) = 1 + g := by rw [IntKind.wrap_i64]; omega
  clear hI4 hW4
  go_wp2_with fail
  go_quiet (fail)
  go_wp2_with fail
  go_ret
  exact ⟨rfl, below_drewN HB4.out _⟩
end Go.Proofs.YtdajolpoiffimaaGreatDoor

namespace Go.Proofs.YtdajolpoiffimaaGreatDoor
open Go.RowKit

theorem slots_ok {b : Px.Bo} {l r : Int} {t : ByteArray} {c g : Int} (h : Px.KI b l r t c g) (ht : t ∈ Kp.tabsL) : SlotsOk t l (Kp.snOf b.st) := by
  have hm := h.may
  have htab : b.st.tab = t := h.tab
  have hop : ∀ y ∈ b.st.slots, Kp.optA t y.line = (Bx.opt (Px.abs b.st) y.line 0 == 120, Bx.opt (Px.abs b.st) y.line 2 - 48) := by
    intro y hy
    have q := (hm.es (Px.absS y) (List.mem_map.2 ⟨y, hy, rfl⟩)).l
    have q2 : y.line ≤ (tn t : Int) := by rw [← htab]; exact q.2
    have := Kp.tabs_opts ht y.line q.1 q2
    unfold Kp.optA
    rw [this, ← htab]
    rfl
  refine ⟨fun z hz => ?_, ?_, fun i hi j hj hji ho hl hs => ?_, ?_⟩
  · obtain ⟨y, hy, rfl⟩ := List.mem_map.1 hz
    have q := hm.es (Px.absS y) (List.mem_map.2 ⟨y, hy, rfl⟩)
    have ha := hop y hy
    have hx := h.ok.ex y hy
    have hf : (y.att = 1 ∧ y.frm = y.minute) ∨ (¬ y.att = 1 ∧ y.minute < y.frm ∧ y.frm ≤ b.st.clock + 10) := by
      by_cases e : y.att = 1
      · exact Or.inl ⟨e, q.f1 e⟩
      · exact Or.inr ⟨e, (q.f2 e).1, (q.f2 e).2⟩
    have hmm : y.minute ≤ b.st.clock := q.m
    have hm0 : 0 ≤ y.minute := q.m0
    have hn2 : b.st.next ≤ 10000 := hm.n2
    have hn1 : y.num < b.st.next := q.n.2
    refine ⟨q.n.1, q.n.2, q.a.1, ?_, q.m, ?_, ?_, fun e => q.f1 e, fun e => ?_, fun e => ?_, ?_⟩
    · show y.att ≤ (Kp.optA t y.line).2; rw [ha]; exact q.a.2
    · show y.minute ≤ y.frm; omega
    · show y.frm ≤ b.st.clock + 10; omega
    · have := (q.f2 e).1
      show ¬ y.frm = y.minute
      have h1 : y.minute < y.frm := this
      omega
    · have h0 : 0 < y.step := by
        have h1 : ¬ y.step = 0 := e
        omega
      exact q.r (decide_eq_true h0)
    · exact ⟨by show (-100 : Int) ≤ y.minute; omega, by show y.num ≤ 10000; omega⟩
  · have := h.ok.rise
    show (b.st.slots.map Kp.tsOf).Pairwise _
    rw [List.pairwise_map]
    exact this
  · have hi' : i < b.st.slots.length := by simpa [Kp.snOf] using hi
    have hj' : j < b.st.slots.length := by simpa [Kp.snOf] using hj
    have ei : (Kp.snOf b.st).slots[i] = Kp.tsOf b.st.slots[i] := by simp [Kp.snOf]
    have ej : (Kp.snOf b.st).slots[j] = Kp.tsOf b.st.slots[j] := by simp [Kp.snOf]
    rw [ei] at ho hl ⊢
    rw [ej] at hl hs
    have hyi := List.getElem_mem hi'
    have ha := hop _ hyi
    have ho' : (Kp.optA t b.st.slots[i].line).1 = true := ho
    rw [ha] at ho'
    have hlk := hm.lock
    have hlk' : (b.st.slots.map Px.absS).Pairwise fun a d => a.line = d.line → Bx.opt (Px.abs b.st) a.line 0 = 120 → a.runs = true → d.runs = true → False := hlk
    rw [List.pairwise_map] at hlk'
    have q := List.pairwise_iff_getElem.1 hlk' j i hj' hi' hji
    have hx := h.ok.ex _ hyi
    show b.st.slots[i].step = 0
    by_cases e : b.st.slots[i].step = 0
    · exact e
    · exfalso
      have hl' : b.st.slots[j].line = b.st.slots[i].line := hl
      refine q hl' ?_ (decide_eq_true hs) (decide_eq_true (by omega))
      show Bx.opt (Px.abs b.st) b.st.slots[j].line 0 = 120
      rw [hl']; exact eq_of_beq ho'
  · have hr := h.run
    have e : Kp.rnT (Kp.snOf b.st).slots = Px.runs b.st := by
      unfold Kp.rnT Px.runs Kp.snOf
      rw [List.filter_map, List.length_map]
      congr 1
      apply List.filter_congr
      intro y hy
      have hx := h.ok.ex y hy
      show decide (¬ y.step = 0) = decide (0 < y.step)
      by_cases q : y.step = 0
      · rw [decide_eq_false (by omega), decide_eq_false (by omega)]
      · rw [decide_eq_true q, decide_eq_true (by omega)]
    rw [e]; exact hr
end Go.Proofs.YtdajolpoiffimaaGreatDoor

namespace Go.Proofs.YtdajolpoiffimaaGreatDoor
open Go.RowKit

set_option maxRecDepth 10000 in
set_option maxHeartbeats 8000000 in
theorem kHeld_any (a0 a1 a2 a3 : Int) (L : List (Int × Int × ByteArray)) (kv : Value) (w : World) (h0 : I64 a0) (h1 : I64 a1) (h2 : I64 a2) (h3 : I64 a3) (hT : TT w) (hK : KScrAt w kv L) (hKl : L.length ≤ 9223372036854775807) (hKb : ∀ s ∈ L, I64 s.2.1 ∧ s.2.2.size ≤ maxLen) :
    Calls Tryz.prog 6 #[suV a0 a1 a2 a3, kv] w fun e w' => e = .returned (.bool true) ∧ Below w.heap.size w w' := by
  obtain ⟨kad, kcap, rfl, hkc⟩ := hK.form
  have hb0 := below_alloc w (suO a0 a1 a2 a3)
  have hs := Cl.new w [.int .i64 a0, .int .i64 a1, .int .i64 a2, .int .i64 a3] 37
  have HKb : Hid (∀ s ∈ L, I64 s.2.1 ∧ s.2.2.size ≤ maxLen) := hKb
  have HI : Hid (I64 a0 ∧ I64 a1 ∧ I64 a2 ∧ I64 a3) := ⟨h0, h1, h2, h3⟩
  have HT : Hid (TT (w.alloc (suO a0 a1 a2 a3))) := hT.later hb0
  have HK : Hid (KScrAt (w.alloc (suO a0 a1 a2 a3)) (.slice kad L.length kcap) L) := hK.later hb0
  clear h0 h1 h2 h3 hT hK hKb
  go_enter Tryz.func6, Tryz.ntmps6
  go_upto_region 1 with fail
  have hs' : Cl (w.alloc (suO a0 a1 a2 a3)) w.heap.size 37 [.int .i64 a0, .int .i64 a1, .int .i64 a2, .int .i64 a3] := hs
  clear hs
  generalize w.alloc (suO a0 a1 a2 a3) = W at *
  have HB0 : Hid (Below w.heap.size w W) := hb0
  have s0 : W.cell? ⟨w.heap.size, 0, none⟩ = some (.int .i64 a0) := hs'.c 0 _ rfl
  have s1 : W.cell? ⟨w.heap.size, 1, none⟩ = some (.int .i64 a1) := hs'.c 1 _ rfl
  have s2 : W.cell? ⟨w.heap.size, 2, none⟩ = some (.int .i64 a2) := hs'.c 2 _ rfl
  have s3 : W.cell? ⟨w.heap.size, 3, none⟩ = some (.int .i64 a3) := hs'.c 3 _ rfl
  have hqs := hs'.ty.lt
  clear hs' hb0
  go_wp2_with fail
  refine (kbegun_any a0 a1 a2 a3 W HI.out.1 HI.out.2.1 HI.out.2.2.1 HI.out.2.2.2 HT.out).mono ?_
  rintro e w1 ⟨P, B, rfl, hW⟩
  have hM := s_may a0 a1
  have hm := (sT_mem a2).1
  have hc := pk_bd a3 4223371680 (by decide)
  have hc' : 0 ≤ sC a3 ∧ sC a3 ≤ 4223371679 := by unfold sC; omega
  generalize sL a0 = l at *
  generalize sR a1 = r at *
  generalize sT a2 = t at *
  generalize sC a3 = c at *
  have hki := (beg_ki hM hm hc'.1 hc'.2).2.2.2
  generalize begG l r t c = g at *
  generalize begB l r t c = b at *
  have HMem : Hid (t ∈ Kp.tabsL) := hm
  have hts : t.size ≤ 300 := Nat.le_trans (Kp.tabs_size t hm).1 (by decide)
  have HS : Hid (0 ≤ c ∧ c ≤ 4223371679 ∧ Px.KI b l r t c g ∧ KW W w1 P B l r t c g b) := ⟨hc'.1, hc'.2, hki, hW⟩
  clear hM hm hc hc' hki hW s0 s1 s2 s3 hqs
  go_wp2_with fail
  go_loopw [6, 7] (fun o i wr => ∃ (k B : Nat) (c g : Int) (b : Px.Bo), k ≤ L.length ∧ o = .bool true ∧ i = .int .i64 k ∧ 0 ≤ c ∧ c ≤ 4223371679 ∧ Px.KI b l r t c g ∧ KW W wr P B l r t c g b) (fun _ i _ => L.length - (intOf i).toNat)
  case atStart => exact ⟨0, B, c, g, b, Nat.zero_le _, rfl, rfl, HS.out⟩
  case round =>
    clear HS
    obtain ⟨k, B, c, g, b, hk, rfl, rfl, c0, c1, hKI, hW⟩ := hrel
    have HKI : Hid (Px.KI b l r t c g) := hKI
    have HW : Hid (KW W wr P B l r t c g b) := hW
    have HSl : Hid (SlotsOk t l (Kp.snOf b.st)) := slots_ok hKI HMem.out
    clear hKI hW
    by_cases hlt : k < L.length
    · obtain ⟨kb, koff, kcap2, hkv, d0, d1, d2⟩ := kscr_at (HK.out.later HW.out.bl) hlt
      cases hkv
      have b1 : (0 : Int) ≤ (k : Int) := by omega
      have b2 : (k : Int) < (L.length : Int) := by omega
      have HSt := HKb.out L[k] (List.getElem_mem hlt)
      generalize L[k] = st at *
      obtain ⟨kd, n, s⟩ := st
      have HSt' : Hid (I64 n ∧ s.size ≤ maxLen) := HSt
      have d0' : wr.cell? ⟨kb, koff + k * 3, none⟩ = some (.int .i64 kd) := d0
      have d1' : wr.cell? ⟨kb, koff + k * 3 + 1, none⟩ = some (.int .i64 n) := d1
      have d2' : wr.cell? ⟨kb, koff + k * 3 + 2, none⟩ = some (.string s) := d2
      clear d0 d1 d2 HSt
      by_cases h7 : kd = 7
      · subst h7
        go_wp2_with fail
        refine (kheld_any W wr P B l r t c g b hts HKI.out HSl.out HW.out).mono ?_
        rintro e w5 ⟨rfl, hb5⟩
        have HW5 : Hid (KW W w5 P B l r t c g b) := HW.out.later hb5
        clear hb5 d0' d1' d2'
        go_wp2_with fail
        go_roundw
        case rel => exact ⟨k + 1, B, c, g, b, by omega, rfl, by go_num, c0, c1, HKI.out, HW5.out⟩
        case measure => simp [intOf]; omega
      · go_wp2_with fail
        refine (kstep_any kd n s W wr P B l r t c g b HSt'.out.1 HSt'.out.2 c0 c1 HT.out HKI.out HW.out).mono ?_
        rintro e w5 ⟨rfl, B', hW5, _, _⟩
        have HK5 : Hid _ := KI.step HKI.out kd n s c0 c1
        generalize stp l r kd n s c g b = q at *
        obtain ⟨c', g', b'⟩ := q
        have HW5 : Hid (KW W w5 P B' l r t c' g' b') := hW5
        clear hW5 d0' d1' d2'
        go_wp2_with fail
        go_roundw
        case rel => exact ⟨k + 1, B', c', g', b', by omega, rfl, by go_num, HK5.out.2.1, HK5.out.2.2, HK5.out.1, HW5.out⟩
        case measure => simp [intOf]; omega
    · have b2 : ¬ (k : Int) < (L.length : Int) := by omega
      go_wp2_with fail
      refine (kheld_any W wr P B l r t c g b hts HKI.out HSl.out HW.out).mono ?_
      rintro e w5 ⟨rfl, hb5⟩
      have HW5 : Hid (KW W w5 P B l r t c g b) := HW.out.later hb5
      clear hb5
      go_wp2_with fail
      go_ret
      exact ⟨rfl, HB0.out.trans (HW5.out.bl.mono HB0.out.size)⟩
end Go.Proofs.YtdajolpoiffimaaGreatDoor

namespace Go.Proofs.YtdajolpoiffimaaGreatDoor
open Go.RowKit

theorem info_str : (Tryz.prog.info? 9).map (fun i => (i.zero, i.size, i.bytes)) = some (some (.string ByteArray.empty), 1, 16) := by kernel_rfl
/-- What sees goes on with. -/
structure SeeK (w0 w : World) (P B Q q : Nat) (l r : Int) (t : ByteArray) (c g : Int) (b : Px.Bo) (x : Kp.Sn) (sl en : Value) (H : Int → Option ByteArray) (v : Value) (K : List ByteArray) : Prop where
  s : See w0 w P B Q q l r t c g b v x sl en
  o : w.ownsRow w0.heap.size 9 1 v K.length (K.map Value.string)
  k : Kp.BookOk K H g
section
variable {w0 w w' : World} {P B Q q : Nat} {l r : Int} {t : ByteArray} {c g : Int} {b : Px.Bo} {v v' : Value} {K : List ByteArray} {x : Kp.Sn} {sl en : Value} {H : Int → Option ByteArray}
theorem SeeK.later (h : SeeK w0 w P B Q q l r t c g b x sl en H v K) (hb : Below w.heap.size w w') : SeeK w0 w' P B Q q l r t c g b x sl en H v K := ⟨h.s.later hb, own_below h.o hb, h.k⟩
theorem SeeK.form (h : SeeK w0 w P B Q q l r t c g b x sl en H v K) : ∃ ad cap, v = .slice ad K.length cap ∧ K.length ≤ cap := (RowAt.of_own h.o).form
/-- The book has grown by one. -/
theorem SeeK.app (h : SeeK w0 w P B Q q l r t c g b x sl en H v K) (hlt : (K.length : Int) < g) (hg : w.grownBy w' v.ownBlock) (ho : w'.ownsRow w0.heap.size 9 1 v' (K.length + 1) (K.map Value.string ++ [.string ByteArray.empty])) :
    See w0 w' P B Q q l r t c g b v x sl en ∧ SeeK w0 (w'.setCell ⟨Q, 0, none⟩ v') P B Q q l r t c g b x sl en H v' (K ++ [ByteArray.empty]) := by
  have hs := h.s.grown h.o hg
  refine ⟨hs, hs.put v', ?_, h.k.snoc hlt⟩
  have := own_put hs.k.ty ho v'
  simpa using this
/-- A number's end is written. -/
theorem SeeK.end {bl n cap : Nat} {y : ByteArray} (h : SeeK w0 w P B Q q l r t c g b x sl en H (.slice (some ⟨bl, 0, none⟩) K.length cap) K) (hn : n < K.length) (hy : H ((n : Int) + 1) = some y) :
    SeeK w0 (w.setCell ⟨bl, n, none⟩ (.string y)) P B Q q l r t c g b x sl en H (.slice (some ⟨bl, 0, none⟩) K.length cap) (K.set n y) := by
  obtain ⟨h1, h2⟩ := h.o.stored n (.string y)
  refine ⟨h.s.grown h.o h2, ?_, h.k.set hn hy⟩
  rw [List.length_set, List.map_set]; exact h1
theorem SeeK.at' (h : SeeK w0 w P B Q q l r t c g b x sl en H v K) {n : Nat} (hn : n < K.length) : ∃ bl cap, v = .slice (some ⟨bl, 0, none⟩) K.length cap ∧ w.cell? ⟨bl, n, none⟩ = some (.string K[n]) ∧ w.frozen? ⟨bl, n, none⟩ = false ∧ bl < w.heap.size := by
  have ho := h.o
  rcases ho.2 with ⟨_, e⟩ | ⟨bl, cap, cur, rfl, _, hg, _⟩
  · omega
  · refine ⟨bl, cap, rfl, ?_, ho.frozenAt n, heap_lt hg⟩
    rw [ho.cellAt n (by omega)]; simp [hn]
end
/-- What sees leaves. -/
def SeesR (w0 w' : World) (P B Q : Nat) (l r : Int) (t : ByteArray) (c g : Int) (b : Px.Bo) (H : Int → Option ByteArray) : Prop := ∃ v' K', KW w0 w' P B l r t c g b ∧ KBk w0 w' Q v' K' ∧ Kp.BookOk K' H g
set_option maxRecDepth 10000 in
set_option maxHeartbeats 8000000 in
theorem ksees_any (w0 w : World) (P B Q : Nat) (l r : Int) (t : ByteArray) (c g : Int) (b : Px.Bo) (v : Value) (K : List ByteArray) (H : Int → Option ByteArray) (hk : Px.KI b l r t c g) (hL : Bx.Led H (Px.abs b.st)) (hK : Kp.BookOk K H g) (hv : KBk w0 w Q v K) (h : KW w0 w P B l r t c g b) :
    Calls Tryz.prog 15 #[.pointer (some ⟨Q, 0, none⟩), .pointer (some ⟨P, 0, none⟩)] w fun e w' => e = .returned (.bool true) ∧ SeesR w0 w' P B Q l r t c g b H := by
  obtain ⟨i0, hi, hz0, hz1, hz2⟩ := info_parts info_str
  have HW : Hid (KW w0 w P B l r t c g b) := h
  have HK : Hid (Px.KI b l r t c g) := hk
  have HV : Hid (KBk w0 w Q v K) := hv
  have HBk : Hid (Kp.BookOk K H g) := hK
  have c0 : w.cell? ⟨P, 0, none⟩ = some (.pointer (some ⟨B, 0, none⟩)) := h.p.c 0 _ rfl
  have hP := h.p.ty.lt
  have hgg := kig hk
  have HEn : Hid (∀ e ∈ (Kp.snOf b.st).ends, 1 ≤ e.num ∧ e.num < 1 + g ∧ H e.num = some e.how) := fun e he => by
    have q := hk.may.ee e he
    have hx : (Px.abs b.st).next = 1 + g := hk.nxt
    have := q.n
    exact ⟨this.1, by omega, hL.en e he⟩
  have HSl : Hid (∀ y ∈ (Kp.snOf b.st).slots, 1 ≤ y.num ∧ y.num < 1 + g ∧ H y.num = none) := fun y hy => by
    obtain ⟨z, hz, rfl⟩ := List.mem_map.1 hy
    have hm : Px.absS z ∈ (Px.abs b.st).slots := List.mem_map.2 ⟨z, hz, rfl⟩
    have q := (hk.may.es _ hm).n
    have hx : (Px.abs b.st).next = 1 + g := hk.nxt
    exact ⟨q.1, by show z.num < 1 + g; have h2 : z.num < (Px.abs b.st).next := q.2; omega, hL.sl _ hm⟩
  have hl8 : (Kp.snOf b.st).slots.length ≤ 8 := by have := hk.ok.len; simpa [Kp.snOf] using this
  have he6 : (Kp.snOf b.st).ends.length ≤ 10000 := by have : b.st.ends.length ≤ 6 := hk.ok.st.en; exact Nat.le_trans this (by decide)
  clear h hk hL hK hv
  go_enter Tryz.func15, Tryz.ntmps15
  go_wp2_with fail
  refine (ksnap_any b B w HK.out.ok HW.out.b.pb).mono ?_
  generalize Kp.snOf b.st = x at *
  rintro e w1 ⟨⟨sl, en, rfl, hA⟩, hb1⟩
  obtain ⟨ad, cap, rfl, hcap⟩ := hA.sl.form
  obtain ⟨ad2, cap2, rfl, hcap2⟩ := hA.en.form
  have hb2 := hb1.trans ((below_alloc w1 (snO x (.slice ad x.slots.length cap) (.slice ad2 x.ends.length cap2))).mono hb1.size)
  have hI := Cl.new w1 (snC x (.slice ad x.slots.length cap) (.slice ad2 x.ends.length cap2)) 82
  have hA2 := hA.later (below_alloc w1 (snO x (.slice ad x.slots.length cap) (.slice ad2 x.ends.length cap2)))
  clear hA hb1
  go_upto_region 2 with fail
  have hI' : Cl (w1.alloc (snO x (.slice ad x.slots.length cap) (.slice ad2 x.ends.length cap2))) w1.heap.size 82 (snC x (.slice ad x.slots.length cap) (.slice ad2 x.ends.length cap2)) := hI
  clear hI c0
  generalize w1.alloc (snO x (.slice ad x.slots.length cap) (.slice ad2 x.ends.length cap2)) = W at *
  generalize w1.heap.size = q at *
  have HX : Hid (SeeK w0 W P B Q q l r t c g b x (.slice ad x.slots.length cap) (.slice ad2 x.ends.length cap2) H v K) := ⟨⟨HW.out.later hb2, (HV.out.later hb2).c, HV.out.lo, hI', hA2⟩, (HV.out.later hb2).own, HBk.out⟩
  clear hb2 hA2 hI' HW HV HBk hP
  go_wp2_with fail
  go_loopg [] (g.toNat - K.length) (fun k wr => ∃ v K, k = g.toNat - K.length ∧ SeeK w0 wr P B Q q l r t c g b x (.slice ad x.slots.length cap) (.slice ad2 x.ends.length cap2) H v K)
  case atStart => exact ⟨v, K, rfl, HX.out⟩
  case round =>
    clear HX
    rename World => wa
    obtain ⟨v, K, hgk, hX⟩ := hrel
    have HX : Hid (SeeK w0 wa P B Q q l r t c g b x (.slice ad x.slots.length cap) (.slice ad2 x.ends.length cap2) H v K) := hX
    have hKg : (K.length : Int) ≤ g := hX.k.len
    obtain ⟨ka, kc, rfl, hkc⟩ := hX.form
    have q0 : wa.cell? ⟨Q, 0, none⟩ = some (.slice ka K.length kc) := hX.s.k.c 0 _ rfl
    have g0 := hX.s.k.f 0 (by simp)
    have p5 : wa.cell? ⟨P, 5, none⟩ = some (.int .i64 g) := hX.s.kw.p.c 5 _ rfl
    have hQ := hX.s.k.ty.lt
    have hP := hX.s.kw.p.ty.lt
    clear hX
    by_cases hlt : (K.length : Int) < g
    · go_wp2_with fail
      go_quiet (fail)
      have hbq : Below wa.heap.size wa (wa.drewN nq) := below_drewN (Below.refl _ _) nq
      have hX5 := HX.out.later hbq
      clear q0 g0 p5 hQ hP hbq HX
      generalize wa.drewN nq = W5 at *
      have q0 : W5.cell? ⟨Q, 0, none⟩ = some (.slice ka K.length kc) := hX5.s.k.c 0 _ rfl
      have hQ := hX5.s.k.ty.lt
      have HX6 : Hid (SeeK w0 (W5.alloc (.cells #[.string { data := #[] }] 9)) P B Q q l r t c g b x (.slice ad x.slots.length cap) (.slice ad2 x.ends.length cap2) H (.slice ka K.length kc) K) := hX5.later (below_alloc W5 _)
      have hsz0 : w0.heap.size ≤ W5.heap.size := hX5.s.kw.bl.size
      have hown : W5.ownsRow w0.heap.size 9 1 (.slice ka K.length kc) K.length (K.map Value.string) := hX5.o
      clear hX5
      go_wp2_with (at_builtin; refine wpList_append_lies _ rfl (.tmp 35) (.tmp 36) 47 rfl w0.heap.size 9 i0 (.string ByteArray.empty) 1 16 Tryz.underlying47 hi hz0 hz1 hz2 rfl (by decide) _ _ _ rfl (hown.alloc _) ⟨W5.heap.size, 0, none⟩ 1 1 [.string { data := #[] }] rfl rfl ?c1 ?c2 (by decide) ?c3 ?c4 ?c5 _ rfl ?_)
      case c1 => exact cell_one_new _ _ _
      case c2 => intro u hu; simp at hu; subst hu; rfl
      case c3 => unfold maxLen; omega
      case c4 => omega
      case c5 => simp; omega
      · intro gq cap1 w3 hown' hgrow _ hlt'
        obtain ⟨hs3, hX3⟩ := HX6.out.app hlt hgrow (v' := .slice (some ⟨gq, 0, none⟩) (K.length + 1) cap1) hown'
        have HX3 : Hid (SeeK w0 (w3.setCell ⟨Q, 0, none⟩ (.slice (some ⟨gq, 0, none⟩) (K.length + 1) cap1)) P B Q q l r t c g b x (.slice ad x.slots.length cap) (.slice ad2 x.ends.length cap2) H (.slice (some ⟨gq, 0, none⟩) (K.length + 1) cap1) (K ++ [ByteArray.empty])) := hX3
        have q0 : w3.cell? ⟨Q, 0, none⟩ = some (.slice ka K.length kc) := hs3.k.c 0 _ rfl
        have g0 := hs3.k.f 0 (by simp)
        have hQ3 := hs3.k.ty.lt
        clear hown' hgrow hs3 hX3 HX6 hown
        go_wp2_with fail
        go_roundg (g.toNat - (K.length + 1))
        case measure => omega
        case rel => exact ⟨_, _, by simp, HX3.out⟩
    · have HKe : Hid ((K.length : Int) = g) := by unfold Hid; omega
      go_wp2_with fail
      go_quiet (fail)
      have hbq : Below wa.heap.size wa (wa.drewN nq) := below_drewN (Below.refl _ _) nq
      have hX5 := HX.out.later hbq
      clear q0 g0 p5 hQ hP hbq HX
      generalize wa.drewN nq = W5 at *
      have HX5 : Hid (SeeK w0 W5 P B Q q l r t c g b x (.slice ad x.slots.length cap) (.slice ad2 x.ends.length cap2) H (.slice ka K.length kc) K) := hX5
      clear hX5
      go_wp2_with fail
      go_loopw [7] (fun i wr => ∃ (k : Nat) (v : Value) (K : List ByteArray), k ≤ x.ends.length ∧ i = .int .i64 k ∧ (K.length : Int) = g ∧ SeeK w0 wr P B Q q l r t c g b x (.slice ad x.slots.length cap) (.slice ad2 x.ends.length cap2) H v K) (fun i _ => x.ends.length - (intOf i).toNat)
      case atStart => exact ⟨0, _, K, Nat.zero_le _, rfl, HKe.out, HX5.out⟩
      case round =>
        clear HX5 HKe hlt hKg hkc hgk
        rename World => wb
        obtain ⟨k, v, K, hk, rfl, hKe, hX⟩ := hrel
        have HKe : Hid ((K.length : Int) = g) := hKe
        have HX : Hid (SeeK w0 wb P B Q q l r t c g b x (.slice ad x.slots.length cap) (.slice ad2 x.ends.length cap2) H v K) := hX
        have i6 : wb.cell? ⟨q, 6, none⟩ = some (.slice ad2 x.ends.length cap2) := hX.s.s.c 6 _ rfl
        have hq := hX.s.s.ty.lt
        clear hX
        by_cases hlt : k < x.ends.length
        · obtain ⟨eb, off, cap', hv, _, hc⟩ := HX.out.s.a.en.1.some' (by omega)
          cases hv
          obtain ⟨d0, d1⟩ := en_cells hc k hlt
          clear hc
          have b1 : (0 : Int) ≤ (k : Int) := by omega
          have b2 : (k : Int) < (x.ends.length : Int) := by omega
          have hy := HEn.out x.ends[k] (List.getElem_mem hlt)
          generalize x.ends[k] = y at *
          obtain ⟨yn, yh⟩ := y
          obtain ⟨y1, y2, y3⟩ := hy
          simp only at y1 y2 y3
          have d0' : wb.cell? ⟨eb, off + k * 2, none⟩ = some (.int .i64 yn) := d0
          have d1' : wb.cell? ⟨eb, off + k * 2 + 1, none⟩ = some (.string yh) := d1
          clear d0 d1
          obtain ⟨m, hm⟩ : ∃ m : Nat, yn = (m : Int) + 1 := ⟨(yn - 1).toNat, by omega⟩
          have hmK : m < K.length := by omega
          obtain ⟨bl, kc2, rfl, e0, e1, e2⟩ := HX.out.at' hmK
          have HX2 : Hid (SeeK w0 wb P B Q q l r t c g b x (.slice ad x.slots.length cap) (.slice (some ⟨eb, off, none⟩) x.ends.length cap2) H (.slice (some ⟨bl, 0, none⟩) K.length kc2) K) := HX.out
          have q0 : wb.cell? ⟨Q, 0, none⟩ = some (.slice (some ⟨bl, 0, none⟩) K.length kc2) := HX2.out.s.k.c 0 _ rfl
          have hQ := HX2.out.s.k.ty.lt
          have HY : Hid (H ((m : Int) + 1) = some yh) := by unfold Hid; rw [← hm]; exact y3
          have HEd : Hid (K[m].size = 0 ∨ K[m] = yh) := HX2.out.k.end hmK HY.out
          have wr1 : IntKind.i64.wrap (yn - 1) = (m : Int) := by rw [IntKind.wrap_i64]; omega
          have b3 : (0 : Int) ≤ (m : Int) := by omega
          have b4 : (m : Int) < (K.length : Int) := by omega
          have b5 : ¬ (m : Int) < 0 := by omega
          have hd1 : decide ((m : Int) < 0) = false := decide_eq_false b5
          have hd2 : decide (K.length ≤ m) = false := decide_eq_false (by omega)
          have hd4 : decide ((K.length : Int) ≤ (m : Int)) = false := decide_eq_false (by omega)
          have HKl : Hid (((K.set m yh).length : Int) = g) := by unfold Hid; rw [List.length_set]; exact HKe.out
          clear HX y1 y2 y3 hm hKe
          by_cases ho : K[m].size = 0
          case' pos =>
            have hoe : K[m] = { data := #[] } := by
              have hoo : K[m] = ByteArray.empty := by simpa using ho
              rw [hoo]; rfl
            rw [hoe] at e0
            clear HEd ho hoe
            go_wp2_with fail
            go_quiet (fail)
          case' neg =>
            have hoe : K[m] = yh := (HEd.out).resolve_left ho
            rw [hoe] at e0 ho
            have hd3 : yh.toList.isEmpty = false := by
              cases hc : yh.toList.isEmpty
              · rfl
              · exfalso
                have hz : yh.toList.length = 0 := by simpa [List.isEmpty_iff] using hc
                have hz2 : yh.toList.length = yh.size := by simp [ByteArray.toList_eq]
                omega
            clear HEd ho hoe
            go_wp2_with fail
            go_quiet (fail)
            clear hd3
          all_goals
            have hbq : Below wb.heap.size wb (wb.drewN nq) := below_drewN (Below.refl _ _) nq
            have HX6 : Hid (SeeK w0 (wb.drewN nq) P B Q q l r t c g b x (.slice ad x.slots.length cap) (.slice (some ⟨eb, off, none⟩) x.ends.length cap2) H (.slice (some ⟨bl, 0, none⟩) K.length kc2) K) := HX2.out.later hbq
            have d1q := cell_later hbq d1'
            have e0q := cell_later hbq e0
            clear d0' d1' e0 e1 e2 q0 hQ i6 hq hbq HX2 hd1 hd2 hd4 wr1 b5
            generalize wb.drewN nq = W6 at *
            have q0 : W6.cell? ⟨Q, 0, none⟩ = some (.slice (some ⟨bl, 0, none⟩) K.length kc2) := HX6.out.s.k.c 0 _ rfl
            have i6 : W6.cell? ⟨q, 6, none⟩ = some (.slice (some ⟨eb, off, none⟩) x.ends.length cap2) := HX6.out.s.s.c 6 _ rfl
            have e1 := HX6.out.o.frozenAt m
            have hQ := HX6.out.s.k.ty.lt
            have hq := HX6.out.s.s.ty.lt
            have hbl := (own_row HX6.out.o).1.lt
            go_wp2_with fail
            go_region
            go_wp2_with fail
            go_roundw
            case rel =>
              refine ⟨k + 1, (.slice (some ⟨bl, 0, none⟩) K.length kc2), K.set m yh, by omega, by go_num, HKl.out, ?_⟩
              first
                | exact HX6.out.end hmK HY.out
                | exact (HX6.out.end hmK HY.out).later (below_drewN (Below.refl _ _) _)
                | exact (HX6.out.later (below_drewN (Below.refl _ _) _)).end hmK HY.out
                | exact (HX6.out.end hmK HY.out).later (Below.refl _ _).drew
                | exact (HX6.out.later (Below.refl _ _).drew).end hmK HY.out
            case measure => simp [intOf]; omega
        · obtain rfl : k = x.ends.length := by omega
          have b2 : ¬ (x.ends.length : Int) < (x.ends.length : Int) := by omega
          clear hlt hKe
          go_wp2_with fail
          clear i6 hq b2
          go_loopw [9] (fun i wr => ∃ (k : Nat), k ≤ x.slots.length ∧ i = .int .i64 k ∧ SeeK w0 wr P B Q q l r t c g b x (.slice ad x.slots.length cap) (.slice ad2 x.ends.length cap2) H v K) (fun i _ => x.slots.length - (intOf i).toNat)
          case atStart => exact ⟨0, Nat.zero_le _, rfl, HX.out⟩
          case round =>
            clear HX
            obtain ⟨k, hk, rfl, hX⟩ := hrel
            have HX : Hid (SeeK w0 wr P B Q q l r t c g b x (.slice ad x.slots.length cap) (.slice ad2 x.ends.length cap2) H v K) := hX
            have i5 : wr.cell? ⟨q, 5, none⟩ = some (.slice ad x.slots.length cap) := hX.s.s.c 5 _ rfl
            have hq := hX.s.s.ty.lt
            clear hX
            by_cases hlt : k < x.slots.length
            · obtain ⟨eb, off, cap', hv, _, hc⟩ := HX.out.s.a.sl.1.some' (by omega)
              cases hv
              obtain ⟨d0, d1, d2, d3, d4, d5⟩ := ts_cells hc k hlt
              clear hc d1 d2 d3 d4 d5
              have b1 : (0 : Int) ≤ (k : Int) := by omega
              have b2 : (k : Int) < (x.slots.length : Int) := by omega
              have hy := HSl.out x.slots[k] (List.getElem_mem hlt)
              generalize x.slots[k].num = yn at *
              obtain ⟨y1, y2, y3⟩ := hy
              have hKe := HKe.out
              obtain ⟨m, hm⟩ : ∃ m : Nat, yn = (m : Int) + 1 := ⟨(yn - 1).toNat, by omega⟩
              have hmK : m < K.length := by omega
              clear hKe
              obtain ⟨bl, kc2, rfl, e0, e1, e2⟩ := HX.out.at' hmK
              have q0 : wr.cell? ⟨Q, 0, none⟩ = some (.slice (some ⟨bl, 0, none⟩) K.length kc2) := HX.out.s.k.c 0 _ rfl
              have hQ := HX.out.s.k.ty.lt
              have ho : K[m].size = 0 := HX.out.k.slot hmK (by rw [← hm]; exact y3)
              have hoe : K[m] = { data := #[] } := by
                have hoo : K[m] = ByteArray.empty := by simpa using ho
                rw [hoo]; rfl
              rw [hoe] at e0
              have wr1 : IntKind.i64.wrap (yn - 1) = (m : Int) := by rw [IntKind.wrap_i64]; omega
              have b3 : (0 : Int) ≤ (m : Int) := by omega
              have b4 : (m : Int) < (K.length : Int) := by omega
              have b5 : ¬ (m : Int) < 0 := by omega
              have b6 : ¬ (K.length : Int) ≤ (m : Int) := by omega
              clear ho hoe y1 y2 y3 hm
              go_wp2_with fail
              go_roundw
              case rel => exact ⟨k + 1, by omega, by go_num, HX.out⟩
              case measure => simp [intOf]; omega
            · obtain rfl : k = x.slots.length := by omega
              have b2 : ¬ (x.slots.length : Int) < (x.slots.length : Int) := by omega
              clear hlt
              go_wp2_with fail
              go_ret
              exact ⟨rfl, v, K, HX.out.s.kw, HX.out.s.bk HX.out.o, HX.out.k⟩
end Go.Proofs.YtdajolpoiffimaaGreatDoor

namespace Go.Proofs.YtdajolpoiffimaaGreatDoor
theorem KI.lead {b : Px.Bo} {l r : Int} {t : ByteArray} {c g : Int} (h : Px.KI b l r t c g) (k n : Int) (s : ByteArray) : Bx.Leads (Px.abs b.st) (Px.abs (stp l r k n s c g b).2.2.st) ∧ g ≤ (stp l r k n s c g b).2.1 := by
  unfold stp
  by_cases h1 : k = 1
  · rw [if_pos h1]
    unfold onS
    by_cases h2 : 4223371679 < c + 1 + pk n 1500
    · rw [if_pos h2]; exact ⟨Bx.Leads.refl _, Int.le_refl _⟩
    · rw [if_neg h2]
      by_cases h3 : (Px.tickB b (c + 1 + pk n 1500)).2.2 = 0
      · rw [if_pos h3]
        obtain ⟨q1, q2⟩ := h.tick _ h3
        exact ⟨Px.lead_tick h.ok h.may _, by show g ≤ g + _; rw [q1]; omega⟩
      · rw [if_neg h3]; exact ⟨Bx.Leads.refl _, Int.le_refl _⟩
  rw [if_neg h1]
  by_cases h2 : k = 2
  · rw [if_pos h2]; exact ⟨Px.lead_start h.ok h.may _, Int.le_refl _⟩
  rw [if_neg h2]
  by_cases h3 : k = 3
  · rw [if_pos h3]; exact ⟨Px.lead_feed h.ok h.may _ _, Int.le_refl _⟩
  rw [if_neg h3]
  by_cases h4 : k = 4
  · rw [if_pos h4]; exact ⟨Px.lead_cancel h.ok h.may _, Int.le_refl _⟩
  rw [if_neg h4]
  by_cases h5 : k = 5
  · rw [if_pos h5]; exact ⟨Bx.Leads.refl _, Int.le_refl _⟩
  rw [if_neg h5]
  by_cases h6 : k = 6
  · rw [if_pos h6]
    refine ⟨?_, Int.le_refl _⟩
    show Bx.Leads _ (Px.abs (Px.intP b.st))
    rw [Px.int_abs]; exact Bx.lead_int _
  rw [if_neg h6]; exact ⟨Bx.Leads.refl _, Int.le_refl _⟩
/-- The first book: a box that was just begun. -/
theorem led_first {b : Px.Bo} {l r : Int} {t : ByteArray} {c g : Int} (h : Px.KI b l r t c g) : ∃ H, Bx.Led H (Px.abs b.st) := by
  classical
  refine ⟨fun n => (((Px.abs b.st).ends.find? fun e => e.num == n).map fun e => e.how), fun e he => ?_, fun x hx => ?_, fun n hn => ?_⟩
  · have hd := h.may.dif
    show Option.map _ _ = _
    have hf : ((Px.abs b.st).ends.find? fun y => y.num == e.num) = some e := by
      generalize (Px.abs b.st).ends = L at *
      induction L with
      | nil => simp at he
      | cons a r ih =>
        have hp := List.pairwise_cons.1 hd
        rcases List.mem_cons.1 he with q | q
        · subst q; simp
        · have hne := hp.1 e q
          rw [List.find?_cons_of_neg (by simpa using hne)]
          exact ih q hp.2
    rw [hf]; rfl
  · show Option.map _ _ = _
    have hf : ((Px.abs b.st).ends.find? fun y => y.num == x.num) = none := by
      rw [List.find?_eq_none]
      intro e he q
      exact (h.may.ee e he).o x hx (by simpa using (eq_of_beq q).symm)
    rw [hf]; rfl
  · show Option.map _ _ = _
    have hf : ((Px.abs b.st).ends.find? fun y => y.num == n) = none := by
      rw [List.find?_eq_none]
      intro e he q
      have h1 := (h.may.ee e he).n.2
      have h2 : e.num = n := by simpa using q
      omega
    rw [hf]; rfl
end Go.Proofs.YtdajolpoiffimaaGreatDoor

namespace Go.Proofs.YtdajolpoiffimaaGreatDoor
open Go.RowKit

/-- What Once goes on with: the box, the book, and how each number has ended. -/
structure OnceI (W w : World) (P B Q : Nat) (l r : Int) (t : ByteArray) (c g : Int) (b : Px.Bo) (v : Value) (K : List ByteArray) (H : Int → Option ByteArray) : Prop where
  c0 : 0 ≤ c
  c1 : c ≤ 4223371679
  ki : Px.KI b l r t c g
  kw : KW W w P B l r t c g b
  bk : KBk W w Q v K
  ok : Kp.BookOk K H g
  led : Bx.Led H (Px.abs b.st)
def OnceR (W w : World) (P Q : Nat) (l r : Int) (t : ByteArray) : Prop := ∃ B c g b v K H, OnceI W w P B Q l r t c g b v K H
set_option maxRecDepth 10000 in
set_option maxHeartbeats 8000000 in
theorem kOnce_any (a0 a1 a2 a3 : Int) (L : List (Int × Int × ByteArray)) (kv : Value) (w : World) (h0 : I64 a0) (h1 : I64 a1) (h2 : I64 a2) (h3 : I64 a3) (hT : TT w) (hK : KScrAt w kv L) (hKl : L.length ≤ 9223372036854775807) (hKb : ∀ s ∈ L, I64 s.2.1 ∧ s.2.2.size ≤ maxLen) :
    Calls Tryz.prog 7 #[suV a0 a1 a2 a3, kv] w fun e w' => e = .returned (.bool true) ∧ Below w.heap.size w w' := by
  obtain ⟨kad, kcap, rfl, hkc⟩ := hK.form
  have hb0 := below_alloc w (suO a0 a1 a2 a3)
  have hs := Cl.new w [.int .i64 a0, .int .i64 a1, .int .i64 a2, .int .i64 a3] 37
  have HKb : Hid (∀ s ∈ L, I64 s.2.1 ∧ s.2.2.size ≤ maxLen) := hKb
  have HI : Hid (I64 a0 ∧ I64 a1 ∧ I64 a2 ∧ I64 a3) := ⟨h0, h1, h2, h3⟩
  have HT : Hid (TT (w.alloc (suO a0 a1 a2 a3))) := hT.later hb0
  have HK : Hid (KScrAt (w.alloc (suO a0 a1 a2 a3)) (.slice kad L.length kcap) L) := hK.later hb0
  clear h0 h1 h2 h3 hT hK hKb
  go_enter Tryz.func7, Tryz.ntmps7
  go_upto_region 1 with fail
  have hs' : Cl (w.alloc (suO a0 a1 a2 a3)) w.heap.size 37 [.int .i64 a0, .int .i64 a1, .int .i64 a2, .int .i64 a3] := hs
  clear hs
  generalize w.alloc (suO a0 a1 a2 a3) = W at *
  have HB0 : Hid (Below w.heap.size w W) := hb0
  have s0 : W.cell? ⟨w.heap.size, 0, none⟩ = some (.int .i64 a0) := hs'.c 0 _ rfl
  have s1 : W.cell? ⟨w.heap.size, 1, none⟩ = some (.int .i64 a1) := hs'.c 1 _ rfl
  have s2 : W.cell? ⟨w.heap.size, 2, none⟩ = some (.int .i64 a2) := hs'.c 2 _ rfl
  have s3 : W.cell? ⟨w.heap.size, 3, none⟩ = some (.int .i64 a3) := hs'.c 3 _ rfl
  have hqs := hs'.ty.lt
  clear hs' hb0
  go_wp2_with fail
  refine (kbegun_any a0 a1 a2 a3 W HI.out.1 HI.out.2.1 HI.out.2.2.1 HI.out.2.2.2 HT.out).mono ?_
  rintro e w1 ⟨P, B, rfl, hW⟩
  have hM := s_may a0 a1
  have hm := (sT_mem a2).1
  have hc := pk_bd a3 4223371680 (by decide)
  have hc' : 0 ≤ sC a3 ∧ sC a3 ≤ 4223371679 := by unfold sC; omega
  generalize sL a0 = l at *
  generalize sR a1 = r at *
  generalize sT a2 = t at *
  generalize sC a3 = c at *
  have hkb := beg_ki hM hm hc'.1 hc'.2
  have hki := hkb.2.2.2
  have hg0 := hkb.2.1
  generalize begG l r t c = g at *
  generalize begB l r t c = b at *
  have HS0 : Hid (∃ H, OnceI W (w1.alloc (.cells #[.slice none 0 0] 49)) P B w1.heap.size l r t c g b (.slice none 0 0) [] H) := by
    obtain ⟨H, hH⟩ := led_first hki
    exact ⟨H, hc'.1, hc'.2, hki, hW.later (below_alloc _ _), ⟨Cl.new w1 [.slice none 0 0] 49, World.ownsRow_nil _ _ _ _, hW.bl.size⟩, Kp.BookOk.nil H hg0, hH⟩
  clear hM hm hc hc' hki hW hkb hg0 s0 s1 s2 s3 hqs
  go_upto_region 3 with fail
  have HS : Hid (OnceR W (w1.alloc (.cells #[.slice none 0 0] 49)) P w1.heap.size l r t) := by
    obtain ⟨H, hH⟩ := HS0.out
    exact ⟨B, c, g, b, _, [], H, hH⟩
  clear HS0
  generalize w1.alloc (.cells #[.slice none 0 0] 49) = W1 at *
  generalize w1.heap.size = Q at *
  go_wp2_with fail
  go_loopw [6, 8] (fun o i wr => ∃ (k : Nat), k ≤ L.length ∧ o = .bool true ∧ i = .int .i64 k ∧ OnceR W wr P Q l r t) (fun _ i _ => L.length - (intOf i).toNat)
  case atStart => exact ⟨0, Nat.zero_le _, rfl, rfl, HS.out⟩
  case round =>
    clear HS
    obtain ⟨k, hk, rfl, rfl, B, c, g, b, v, K, H, hO⟩ := hrel
    have HO : Hid (OnceI W wr P B Q l r t c g b v K H) := hO
    clear hO
    by_cases hlt : k < L.length
    · obtain ⟨kb, koff, kcap2, hkv, d0, d1, d2⟩ := kscr_at (HK.out.later HO.out.kw.bl) hlt
      cases hkv
      have b1 : (0 : Int) ≤ (k : Int) := by omega
      have b2 : (k : Int) < (L.length : Int) := by omega
      have HSt := HKb.out L[k] (List.getElem_mem hlt)
      generalize L[k] = st at *
      obtain ⟨kd, n, s⟩ := st
      have HSt' : Hid (I64 n ∧ s.size ≤ maxLen) := HSt
      have d0' : wr.cell? ⟨kb, koff + k * 3, none⟩ = some (.int .i64 kd) := d0
      have d1' : wr.cell? ⟨kb, koff + k * 3 + 1, none⟩ = some (.int .i64 n) := d1
      have d2' : wr.cell? ⟨kb, koff + k * 3 + 2, none⟩ = some (.string s) := d2
      clear d0 d1 d2 HSt
      by_cases h7 : kd = 7
      · subst h7
        go_wp2_with fail
        refine (ksees_any W wr P B Q l r t c g b v K H HO.out.ki HO.out.led HO.out.ok HO.out.bk HO.out.kw).mono ?_
        rintro e w5 ⟨rfl, v', K', hw5, hk5, ho5⟩
        have HO5 : Hid (OnceR W w5 P Q l r t) := ⟨B, c, g, b, v', K', H, HO.out.c0, HO.out.c1, HO.out.ki, hw5, hk5, ho5, HO.out.led⟩
        clear hw5 hk5 ho5 d0' d1' d2'
        go_wp2_with fail
        go_roundw
        case rel => exact ⟨k + 1, by omega, rfl, by go_num, HO5.out⟩
        case measure => simp [intOf]; omega
      · go_wp2_with fail
        refine (kstep_any kd n s W wr P B l r t c g b HSt'.out.1 HSt'.out.2 HO.out.c0 HO.out.c1 HT.out HO.out.ki HO.out.kw).mono ?_
        rintro e w5 ⟨rfl, B', hW5, hF5, _⟩
        have HO5 : Hid (OnceR W w5 P Q l r t) := by
          have hk5 := KI.step HO.out.ki kd n s HO.out.c0 HO.out.c1
          obtain ⟨hl5, hg5⟩ := KI.lead HO.out.ki kd n s
          obtain ⟨H', he, hL'⟩ := hl5 H HO.out.led
          exact ⟨B', _, _, _, v, K, H', hk5.2.1, hk5.2.2, hk5.1, hW5, HO.out.bk.far2 hF5 HO.out.kw.p.ty HO.out.kw.b.typ, HO.out.ok.ext he hg5, hL'⟩
        clear hW5 hF5 d0' d1' d2'
        go_wp2_with fail
        go_roundw
        case rel => exact ⟨k + 1, by omega, rfl, by go_num, HO5.out⟩
        case measure => simp [intOf]; omega
    · have b2 : ¬ (k : Int) < (L.length : Int) := by omega
      go_wp2_with fail
      refine (ksees_any W wr P B Q l r t c g b v K H HO.out.ki HO.out.led HO.out.ok HO.out.bk HO.out.kw).mono ?_
      rintro e w5 ⟨rfl, v', K', hw5, hk5, ho5⟩
      have HB5 : Hid (Below W.heap.size W w5) := hw5.bl
      clear hw5 hk5 ho5
      go_wp2_with fail
      go_ret
      exact ⟨rfl, HB0.out.trans (HB5.out.mono HB0.out.size)⟩
end Go.Proofs.YtdajolpoiffimaaGreatDoor
