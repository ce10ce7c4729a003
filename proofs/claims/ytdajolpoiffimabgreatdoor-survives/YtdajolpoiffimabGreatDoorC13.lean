/-
  KStep, KFar, KStep2, KStep3, KStepArg.
-/
import Derived.Test.YtdajolpoiffimabGreatDoorC8
import Derived.Test.YtdajolpoiffimabGreatDoorC10
import Derived.Test.YtdajolpoiffimabGreatDoorC11
import Derived.Test.YtdajolpoiffimabGreatDoorC12

namespace Go.Proofs.YtdajolpoiffimabGreatDoor
open Go.RowKit

/-- All blocks but two are as they were. -/
structure Far2 (w w' : World) (P B : Nat) : Prop where
  sz : w.heap.size ≤ w'.heap.size
  blk : ∀ k, k < w.heap.size → k ≠ P → k ≠ B → w'.heap[k]? = w.heap[k]?
theorem Far2.refl (w : World) (P B : Nat) : Far2 w w P B := ⟨Nat.le_refl _, fun _ _ _ _ => rfl⟩
theorem Far2.trans {w w1 w2 : World} {P B : Nat} (h : Far2 w w1 P B) (h2 : Far2 w1 w2 P B) : Far2 w w2 P B := ⟨Nat.le_trans h.sz h2.sz, fun k hk h3 h4 => (h2.blk k (Nat.lt_of_lt_of_le hk h.sz) h3 h4).trans (h.blk k hk h3 h4)⟩
theorem Far2.below {w w' : World} {P B : Nat} (h : Below w.heap.size w w') : Far2 w w' P B := ⟨h.size, fun k hk _ _ => h.block k hk⟩
theorem Far2.grow {w w' : World} {P B : Nat} (h : w.grownBy w' (some B)) : Far2 w w' P B := ⟨h.size, fun k hk _ h4 => h.block k hk (fun e => h4 (by cases e; rfl))⟩
theorem Far2.set {w : World} {P B : Nat} (j : Nat) (v : Value) : Far2 w (w.setCell ⟨P, j, none⟩ v) P B := by
  refine ⟨by simp [World.setCell], fun k hk h3 h4 => ?_⟩
  have hg : w.grownBy (w.setCell ⟨P, j, none⟩ v) (some P) := grow_set (grow_of_below (Below.refl _ _) _) _ _
  exact hg.block k hk (fun e => h3 (by cases e; rfl))
theorem Cl.far2 {w w' : World} {P B q : Nat} {t : TypeId} {cs : List Value} (h : Cl w q t cs) (hf : Far2 w w' P B) (h1 : q ≠ P) (h2 : q ≠ B) : Cl w' q t cs := by
  have e := hf.blk q h.ty.lt h1 h2
  refine ⟨fun j v hj => ?_, fun j hj => ?_, ?_⟩
  · rw [World.cell?_of_block (a := ⟨q, j, none⟩) e]; exact h.c j v hj
  · rw [World.frozen?_of_block (a := ⟨q, j, none⟩) e]; exact h.f j hj
  · obtain ⟨cur, fr, hc⟩ := h.ty; exact ⟨cur, fr, e.trans hc⟩
def fedS (s : ByteArray) : ByteArray := if 40 < s.size then s.extract 0 40 else s
theorem fedS_le (s : ByteArray) : (fedS s).size ≤ 40 := by unfold fedS; split <;> (try simp) <;> omega
theorem kfed_any (s : ByteArray) (w : World) (hs : s.size ≤ maxLen) : Calls Tryz.prog 29 #[.string s] w fun e w' => e = .returned (.string (fedS s)) ∧ w' = w := by
  unfold maxLen at hs
  by_cases h : 40 < s.size
  · have H : Hid (fedS s = s.extract 0 40) := if_pos h
    have h' : (40 : Int) < (s.size : Int) := by omega
    have h'' : (40 : Int) ≤ (s.size : Int) := by omega
    go_enter Tryz.func29, Tryz.ntmps29
    go_wp2_with fail
    go_ret
    exact ⟨ret_str H.out.symm, rfl⟩
  · have H : Hid (fedS s = s) := if_neg h
    have h' : ¬ (40 : Int) < (s.size : Int) := by omega
    go_enter Tryz.func29, Tryz.ntmps29
    go_wp2_with fail
    go_ret
    exact ⟨ret_str H.out.symm, rfl⟩
set_option maxHeartbeats 1000000 in
theorem knumber_any (n : Int) (w0 w : World) (P B : Nat) (l r : Int) (t : ByteArray) (c g : Int) (b : Px.Bo) (hn : I64 n) (g0 : 0 ≤ g) (g1 : g ≤ 9999) (h : KW w0 w P B l r t c g b) :
    Calls Tryz.prog 26 #[.pointer (some ⟨P, 0, none⟩), .int .i64 n] w fun e w' => e = .returned (.int .i64 (1 + pk n (g + 1))) ∧ w' = w := by
  have c5 : w.cell? ⟨P, 5, none⟩ = some (.int .i64 g) := h.p.c 5 _ rfl
  have hP := h.p.ty.lt
  have hb := pk_bd n (g + 1) (by omega)
  obtain ⟨p, hp⟩ : ∃ p, pk n (g + 1) = p := ⟨_, rfl⟩
  rw [hp] at hb
  have HP : Hid (pk n (g + 1) = p) := hp
  have HN : Hid (I64 n) := hn
  obtain ⟨q0, q1⟩ := hb
  clear h hp hn
  go_enter Tryz.func26, Tryz.ntmps26
  go_wp2_with fail
  refine (pick_at n (g + 1) p _ HP.out HN.out.1 HN.out.2 (by omega) (by omega)).mono ?_
  rintro e w1 ⟨rfl, h2⟩
  have h3 := h2.symm
  subst h3
  go_wp2_with fail
  go_ret
  exact ⟨ret_int' (by rw [HP.out]), rfl⟩
set_option maxHeartbeats 1000000 in
theorem kmay_any (e more : Int) (w0 w : World) (P B : Nat) (l r : Int) (t : ByteArray) (c g : Int) (b : Px.Bo) (h0 : 0 ≤ more) (h1 : more ≤ 100000) (hz : b.log.size ≤ 10000) (h : KW w0 w P B l r t c g b) (hm : e = 13 → r < (b.log.size : Int) + more) :
    Calls Tryz.prog 27 #[.pointer (some ⟨P, 0, none⟩), .int .i64 e, .int .i64 more] w fun e w' => e = .returned (.bool true) ∧ w' = w := by
  have H : Hid (KW w0 w P B l r t c g b) := h
  by_cases h13 : e = 13
  · have HD : Hid (decide (r < (b.log.size : Int) + more) = true) := decide_eq_true (hm h13)
    subst h13
    clear h hm
    go_enter Tryz.func27, Tryz.ntmps27
    go_wp2_with fail
    refine (kfull_any more w0 _ P B l r t c g b h0 h1 hz H.out).mono ?_
    rw [HD.out]
    rintro e w1 ⟨rfl, h2⟩
    have h3 := h2.symm
    subst h3
    go_wp2_with fail
    go_ret
    exact ⟨rfl, rfl⟩
  · clear h hm
    go_enter Tryz.func27, Tryz.ntmps27
    go_wp2_with fail
    go_ret
    exact ⟨rfl, rfl⟩
theorem kig {b : Px.Bo} {l r : Int} {t : ByteArray} {c g : Int} (h : Px.KI b l r t c g) : 0 ≤ g ∧ g ≤ 9999 := by
  have h1 : 1 ≤ b.st.next := h.may.n1
  have h2 : b.st.next ≤ 10000 := h.may.n2
  have := h.nxt
  omega
theorem kil {b : Px.Bo} {l r : Int} {t : ByteArray} {c g : Int} (h : Px.KI b l r t c g) : b.log.size ≤ 10000 ∧ 1 ≤ l ∧ l ≤ 4 ∧ mayB l r = true ∧ b.log.size ≤ 4000 := by
  have := h.log
  exact ⟨by omega, by omega, by omega, decide_eq_true (by omega), by omega⟩
/-- What a Tick of some minutes on makes. -/
noncomputable def onS (c g n : Int) (b : Px.Bo) : Int × Int × Px.Bo := if 4223371679 < c + 1 + pk n 1500 then (c, g, b) else if (Px.tickB b (c + 1 + pk n 1500)).2.2 = 0 then (c + 1 + pk n 1500, g + (Px.tickB b (c + 1 + pk n 1500)).2.1, (Px.tickB b (c + 1 + pk n 1500)).1) else (c, g, b)
set_option maxRecDepth 10000 in
set_option maxHeartbeats 4000000 in
theorem kon_any (n : Int) (w0 w : World) (P B : Nat) (l r : Int) (t : ByteArray) (c g : Int) (b : Px.Bo) (hn : I64 n) (c0 : 0 ≤ c) (c1 : c ≤ 4223371679) (hT : TT w0) (hk : Px.KI b l r t c g) (h : KW w0 w P B l r t c g b) :
    Calls Tryz.prog 24 #[.pointer (some ⟨P, 0, none⟩), .int .i64 n] w fun e w' => e = .returned (.bool true) ∧ KW w0 w' P B l r t (onS c g n b).1 (onS c g n b).2.1 (onS c g n b).2.2 ∧ Far2 w w' P B := by
  have HW : Hid (KW w0 w P B l r t c g b) := h
  have HK : Hid (Px.KI b l r t c g) := hk
  have HT : Hid (TT w0) := hT
  have c4 : w.cell? ⟨P, 4, none⟩ = some (.int .i64 c) := h.p.c 4 _ rfl
  have hP := h.p.ty.lt
  have hp := pk_bd n 1500 (by decide)
  have HS : Hid (onS c g n b = if 4223371679 < c + 1 + pk n 1500 then (c, g, b) else if (Px.tickB b (c + 1 + pk n 1500)).2.2 = 0 then (c + 1 + pk n 1500, g + (Px.tickB b (c + 1 + pk n 1500)).2.1, (Px.tickB b (c + 1 + pk n 1500)).1) else (c, g, b)) := rfl
  have C0' : ∀ wq : World, Calls Tryz.prog 13 #[.int .i64 n, .int .i64 1500] wq fun e w' => e = .returned (.int .i64 (pk n 1500)) ∧ w' = wq := fun wq => pick_at n 1500 _ wq rfl hn.1 hn.2 (by decide) (by decide)
  generalize pk n 1500 = p at *
  obtain ⟨p0, p1⟩ := hp
  have C0 : Hid (∀ wq : World, Calls Tryz.prog 13 #[.int .i64 n, .int .i64 1500] wq fun e w' => e = .returned (.int .i64 p) ∧ w' = wq) := C0'
  have wr1 : IntKind.i64.wrap (c + 1) = c + 1 := by rw [IntKind.wrap_i64]; omega
  have wr2 : IntKind.i64.wrap (c + 1 + p) = c + 1 + p := by rw [IntKind.wrap_i64]; omega
  have HWd : Hid (KW w0 w.drew P B l r t c g b) := h.later (Below.refl _ _).drew
  clear h hk hT hn C0'
  go_enter Tryz.func24, Tryz.ntmps24
  go_wp2_with fail
  go_region_held3 (fun w' => ∀ b o, b < w.heap.size → w'.cell? ⟨b, o, none⟩ = w.cell? ⟨b, o, none⟩)
    ((intro b' o' h1; rfl))
    ((go_at_call 13; refine (C0.out _).mono ?_; rintro e w5 ⟨rfl, rfl⟩))
  rename ∀ (b o : Nat), b < w.heap.size → _ = w.cell? _ => hSold
  clear hSold c4 C0
  try rw [wr1]
  try rw [wr2]
  clear wr1 wr2
  have HF0 : Hid (Far2 w w.drew P B) := Far2.below (Below.refl _ _).drew
  have hP' : P < w.drew.heap.size := hP
  generalize hwg : w.drew = wg at *
  clear hwg hP
  obtain ⟨tm, hto⟩ : ∃ tm, c + 1 + p = tm := ⟨_, rfl⟩
  rw [hto] at HS ⊢
  have ht1 : c < tm := by omega
  have ht2 : tm ≤ c + 1500 := by omega
  clear hto p0 p1
  by_cases hmx : 4223371679 < tm
  · have HSs : Hid (onS c g n b = (c, g, b)) := by unfold Hid; rw [HS.out, if_pos hmx]
    go_wp2_with fail
    go_ret
    exact ⟨rfl, by rw [HSs.out]; exact ⟨HWd.out, HF0.out⟩⟩
  have HS2 : Hid (onS c g n b = if (Px.tickB b tm).2.2 = 0 then (tm, g + (Px.tickB b tm).2.1, (Px.tickB b tm).1) else (c, g, b)) := by unfold Hid; rw [HS.out, if_neg hmx]
  clear HS
  have c00 : wg.cell? ⟨P, 0, none⟩ = some (.pointer (some ⟨B, 0, none⟩)) := HWd.out.p.c 0 _ rfl
  have hcod := Px.tick_codes b tm (by omega) (by omega) (HK.out.ahead ht1 ht2)
  have hg9 := kig HK.out
  have hll := kil HK.out
  have hl1 := hll.2.1
  have hl2 := hll.2.2.1
  have H7 : Hid (10000 < b.st.next + ((Px.comesP b.st tm).length : Int) → 9999 < g + 4 * (tm - c)) := HK.out.ids7 c0 ht1
  have H13 : Hid ((Px.clockP b.st tm).2 = 0 → b.room < (b.log.size : Int) + (Px.tickQ b tm).2.size → r < (b.log.size : Int) + (12 + 9 * l)) := HK.out.room13
  have hwn : ((Px.comesP b.st tm).length : Int) ≤ 6000 := by have := HK.out.many c0 ht1; omega
  rcases hcod with h0 | ⟨hb', hn0, ⟨h7, hi7⟩ | ⟨h13, hc13, hr13⟩⟩
  · obtain ⟨q1, q2⟩ := HK.out.tick tm h0
    have HSs : Hid (onS c g n b = (tm, g + (Px.tickB b tm).2.1, (Px.tickB b tm).1)) := by unfold Hid; rw [HS2.out, if_pos h0]
    have HR : Hid ((Px.tickB b tm).2 = ((Px.tickB b tm).2.1, 0)) := Prod.ext rfl h0
    have hgw := kig q2
    rw [← q1] at hgw hwn
    have hw0 : 0 ≤ (Px.tickB b tm).2.1 := by rw [q1]; omega
    clear q1 q2 h0 H7 H13 HS2
    go_wp2_with fail
    refine (ktick_any b B tm w0 _ HK.out.ok hll.1 HT.out HWd.out.b).mono ?_
    rw [HR.out]
    generalize (Px.tickB b tm).1 = b2 at *
    generalize (Px.tickB b tm).2.1 = want at *
    rintro e w6 ⟨rfl, hK6, hg6⟩
    have hW6 := HWd.out.call hK6 hg6
    have HF6 : Hid (Far2 w w6 P B) := HF0.out.trans (Far2.grow hg6)
    have c4 : w6.cell? ⟨P, 4, none⟩ = some (.int .i64 c) := hW6.p.c 4 _ rfl
    have f4 := hW6.p.f 4 (by simp)
    have hP6 := hW6.p.ty.lt
    have hW7 : KW w0 (w6.setCell ⟨P, 4, none⟩ (.int .i64 tm)) P B l r t tm g b2 := hW6.set 4 _ (by decide) rfl
    have HF7 : Hid (Far2 w (w6.setCell ⟨P, 4, none⟩ (.int .i64 tm)) P B) := HF6.out.trans (Far2.set _ _)
    clear c00 hK6 hg6 hW6 HR HF6 HF0
    go_upto_region 9 with fail
    clear c4 f4
    generalize w6.setCell ⟨P, 4, none⟩ (.int .i64 tm) = W7 at *
    have c5 : W7.cell? ⟨P, 5, none⟩ = some (.int .i64 g) := hW7.p.c 5 _ rfl
    have f5 := hW7.p.f 5 (by simp)
    have hP7 := hW7.p.ty.lt
    have HW8 : Hid (KW w0 (W7.setCell ⟨P, 5, none⟩ (.int .i64 (g + want))) P B l r t tm (g + want) b2 ∧ Far2 w (W7.setCell ⟨P, 5, none⟩ (.int .i64 (g + want))) P B) := ⟨hW7.set 5 _ (by decide) rfl, HF7.out.trans (Far2.set _ _)⟩
    clear hW7
    go_wp2_with fail
    go_ret
    exact ⟨rfl, by rw [HSs.out]; exact HW8.out⟩
  · have HR : Hid ((Px.tickB b tm).1 = b ∧ (Px.tickB b tm).2 = (0, 7)) := ⟨hb', Prod.ext hn0 h7⟩
    have HSs : Hid (onS c g n b = (c, g, b)) := by unfold Hid; rw [HS2.out, if_neg (by rw [h7]; decide)]
    have HTk : Hid (tkd b l r g 7 (tm - c) = true) := by
      have := H7.out hi7
      unfold Hid tkd; simp; omega
    clear H7 H13 hb' hn0 h7 hi7 HS2
    go_wp2_with fail
    refine (ktick_any b B tm w0 _ HK.out.ok hll.1 HT.out HWd.out.b).mono ?_
    rw [HR.out.1, HR.out.2]
    rintro e w6 ⟨rfl, hK6, hg6⟩
    have hW6 := HWd.out.call hK6 hg6
    have HW6 : Hid (KW w0 w6 P B l r t c g b ∧ Far2 w w6 P B) := ⟨hW6, HF0.out.trans (Far2.grow hg6)⟩
    have c4 : w6.cell? ⟨P, 4, none⟩ = some (.int .i64 c) := hW6.p.c 4 _ rfl
    have hP6 := hW6.p.ty.lt
    clear c00 hK6 hg6 hW6 HR
    go_wp2_with fail
    refine (kticked_any 7 (tm - c) w0 _ P B l r t c g b (by omega) (by omega) (by omega) (by omega) (by omega) (by omega) hll.1 HW6.out.1).mono ?_
    rw [HTk.out]
    rintro e w7 ⟨rfl, hw7⟩
    have hw7s := hw7.symm
    subst hw7s
    clear c4 hw7
    go_wp2_with fail
    go_ret
    exact ⟨rfl, by rw [HSs.out]; exact HW6.out⟩
  · have HR : Hid ((Px.tickB b tm).1 = b ∧ (Px.tickB b tm).2 = (0, 13)) := ⟨hb', Prod.ext hn0 h13⟩
    have HSs : Hid (onS c g n b = (c, g, b)) := by unfold Hid; rw [HS2.out, if_neg (by rw [h13]; decide)]
    have HTk : Hid (tkd b l r g 13 (tm - c) = true) := by
      have := H13.out hc13 hr13
      unfold Hid tkd; simp; omega
    clear H7 H13 hb' hn0 h13 hc13 hr13 HS2
    go_wp2_with fail
    refine (ktick_any b B tm w0 _ HK.out.ok hll.1 HT.out HWd.out.b).mono ?_
    rw [HR.out.1, HR.out.2]
    rintro e w6 ⟨rfl, hK6, hg6⟩
    have hW6 := HWd.out.call hK6 hg6
    have HW6 : Hid (KW w0 w6 P B l r t c g b ∧ Far2 w w6 P B) := ⟨hW6, HF0.out.trans (Far2.grow hg6)⟩
    have c4 : w6.cell? ⟨P, 4, none⟩ = some (.int .i64 c) := hW6.p.c 4 _ rfl
    have hP6 := hW6.p.ty.lt
    clear c00 hK6 hg6 hW6 HR
    go_wp2_with fail
    refine (kticked_any 13 (tm - c) w0 _ P B l r t c g b (by omega) (by omega) (by omega) (by omega) (by omega) (by omega) hll.1 HW6.out.1).mono ?_
    rw [HTk.out]
    rintro e w7 ⟨rfl, hw7⟩
    have hw7s := hw7.symm
    subst hw7s
    clear c4 hw7
    go_wp2_with fail
    go_ret
    exact ⟨rfl, by rw [HSs.out]; exact HW6.out⟩
end Go.Proofs.YtdajolpoiffimabGreatDoor

namespace Go.Proofs.YtdajolpoiffimabGreatDoor
open Go.RowKit

theorem typed_ne {w : World} {p q : Nat} {s t : TypeId} (h : Typed w p s) (h' : Typed w q t) (hne : s ≠ t) : p ≠ q := fun e => by
  obtain ⟨c1, f1, h1⟩ := h
  obtain ⟨c2, f2, h2⟩ := h'
  rw [e, h2] at h1; cases h1; exact hne rfl
theorem Typed.grow {w w' : World} {q g : Nat} {t : TypeId} (h : Typed w q t) (hg : w.grownBy w' (some g)) (hne : q ≠ g) : Typed w' q t := by
  obtain ⟨c1, f1, h1⟩ := h
  exact ⟨c1, f1, (hg.block q (heap_lt h1) (fun e => hne (by cases e; rfl))).trans h1⟩
theorem Typed.far2 {w w' : World} {q P B : Nat} {t : TypeId} (h : Typed w q t) (hf : Far2 w w' P B) (h1 : q ≠ P) (h2 : q ≠ B) : Typed w' q t := by
  obtain ⟨c1, f1, h3⟩ := h
  exact ⟨c1, f1, (hf.blk q (heap_lt h3) h1 h2).trans h3⟩
theorem KW.grow' {w0 w w' : World} {P B : Nat} {l r : Int} {tab : ByteArray} {c g : Int} {b : Px.Bo} (h : KW w0 w P B l r tab c g b) {q : Nat} {t : TypeId} (hg : w.grownBy w' (some q)) (ht : Typed w q t) (hq : w0.heap.size ≤ q) (h1 : t ≠ 79) (h2 : 143 ≠ t) (h3 : 85 ≠ t) (h4 : 33 ≠ t) : KW w0 w' P B l r tab c g b := by
  obtain ⟨sl, en, hp⟩ := h.b.pb
  exact ⟨h.p.grow hg (typed_ne h.p.ty ht h4), ⟨h.b.lo, below_grow h.b.bl hg hq, sl, en, hp.grow' hg ht h1 h2 h3⟩, h.lo⟩
theorem SnAt.grow' {w w' : World} {x : Kp.Sn} {sl en : Value} (h : SnAt w x sl en) {q : Nat} {t : TypeId} (hg : w.grownBy w' (some q)) (ht : Typed w q t) (h1 : 81 ≠ t) (h2 : 85 ≠ t) : SnAt w' x sl en := ⟨h.sl.grow' hg ht h1, h.en.grow' hg ht h2⟩
theorem TRow.far {w w' : World} {e : TypeId} {v : Value} {n : Nat} {cs : List Value} (h : TRow w e v n cs) (hk : ∀ g, Typed w g e → w'.heap[g]? = w.heap[g]?) : TRow w' e v n cs := by
  refine ⟨?_, fun b off m cap hv => ?_⟩
  · rcases h.1 with a | ⟨b, off, cap, hv, hle, hc⟩
    · exact Or.inl a
    · refine Or.inr ⟨b, off, cap, hv, hle, fun j hj => ?_⟩
      have e := hk b (h.2 b off n cap hv)
      rw [World.cell?_of_block (a := ⟨b, off + j, none⟩) e]; exact hc j hj
  · obtain ⟨cur, fr, hc⟩ := h.2 b off m cap hv
    exact ⟨cur, fr, (hk b ⟨cur, fr, hc⟩).trans hc⟩
theorem Far2.of {w w' : World} {P B : Nat} (hf : Far2 w w' P B) (hP : Typed w P 33) (hB : Typed w B 79) {t : TypeId} (h1 : t ≠ 33) (h2 : t ≠ 79) (g : Nat) (hg : Typed w g t) : w'.heap[g]? = w.heap[g]? :=
  hf.blk g hg.lt (typed_ne hg hP h1) (typed_ne hg hB h2)
theorem SnAt.far2 {w w' : World} {P B : Nat} {x : Kp.Sn} {sl en : Value} (h : SnAt w x sl en) (hf : Far2 w w' P B) (hP : Typed w P 33) (hB : Typed w B 79) : SnAt w' x sl en := ⟨h.sl.far (hf.of hP hB (by decide) (by decide)), h.en.far (hf.of hP hB (by decide) (by decide))⟩
theorem PB.far2 {w w' : World} {P B B2 : Nat} {b : Px.Bo} {sl en : Value} (h : PB w B2 b sl en) (hf : Far2 w w' P B) (hP : Typed w P 33) (hB : Typed w B 79) (hne : B2 ≠ B) : PB w' B2 b sl en := by
  have eb := hf.blk B2 h.ty.lt (typed_ne h.ty hP (by decide)) hne
  have cc : ∀ (k : Nat) (u : Value), w.cell? ⟨B2, k, none⟩ = some u → w'.cell? ⟨B2, k, none⟩ = some u := fun k u x => by rw [World.cell?_of_block (a := ⟨B2, k, none⟩) eb]; exact x
  refine ⟨cc _ _ h.c0, cc _ _ h.c1, cc _ _ h.c2, cc _ _ h.c3, cc _ _ h.c4, cc _ _ h.c5, cc _ _ h.c6, cc _ _ h.c7, fun k hk => by rw [World.frozen?_of_block (a := ⟨B2, k, none⟩) eb]; exact h.f k hk, ?_, ⟨h.rows.sl.far (hf.of hP hB (by decide) (by decide)), h.rows.en.far (hf.of hP hB (by decide) (by decide))⟩⟩
  obtain ⟨c, f, e⟩ := h.ty
  exact ⟨c, f, eb.trans e⟩
theorem KW.far2 {w0 w w' : World} {P B P2 B2 : Nat} {l r : Int} {tab : ByteArray} {c g : Int} {b : Px.Bo} (h : KW w0 w P2 B2 l r tab c g b) (hf : Far2 w w' P B) (hP : Typed w P 33) (hB : Typed w B 79) (h1 : P2 ≠ P) (h2 : B2 ≠ B) (bl : Below w0.heap.size w0 w') : KW w0 w' P2 B2 l r tab c g b := by
  obtain ⟨sl, en, hp⟩ := h.b.pb
  exact ⟨h.p.far2 hf h1 (typed_ne h.p.ty hB (by decide)), ⟨h.b.lo, bl, sl, en, hp.far2 hf hP hB h2⟩, h.lo⟩
end Go.Proofs.YtdajolpoiffimabGreatDoor

namespace Go.Proofs.YtdajolpoiffimabGreatDoor
open Go.RowKit

theorem far_start {b : Px.Bo} {l r : Int} {t : ByteArray} {c g : Int} (h : Px.KI b l r t c g) (n : Int) : (Px.startB b n).2.2 = 13 → r < ((Px.startB b n).1.log.size : Int) + 18 := by
  intro q
  have e : (Px.startB b n).1 = b := by
    have hs0 : (Px.startP b.st n).2 = 0 → Px.Ok (Px.startP b.st n).1 := Px.startP_ok h.ok n
    rcases Px.start_adv h.ok n hs0 with ⟨_, e, _⟩ | ⟨e, _⟩
    · exact e
    · rw [e] at q; exact absurd q (by decide)
  rcases Px.start_codes b n with q0 | ⟨_, q0⟩ | ⟨_, q1⟩
  · omega
  · omega
  · rw [e, ← h.room]; exact q1
theorem far_feed {b : Px.Bo} {l r : Int} {t : ByteArray} {c g : Int} (h : Px.KI b l r t c g) (n : Int) (x : ByteArray) (hx : x.size ≤ 40) : (Px.feedB b n x).2.2 = 13 → r < ((Px.feedB b n x).1.log.size : Int) + 9 := by
  intro q
  have e : (Px.feedB b n x).1 = b := by
    rcases Px.feed_adv h.ok n x with ⟨_, e, _⟩ | ⟨e, _⟩
    · exact e
    · rw [e] at q; exact absurd q (by decide)
  rcases Px.feed_codes b n x hx with q0 | q0 | q0 | ⟨_, q1⟩
  · omega
  · omega
  · omega
  · rw [e, ← h.room]; exact q1
theorem far_cancel {b : Px.Bo} {l r : Int} {t : ByteArray} {c g : Int} (h : Px.KI b l r t c g) (n : Int) : (Px.cancelB b n).2 = 13 → r < ((Px.cancelB b n).1.log.size : Int) + 9 := by
  intro q
  have e : (Px.cancelB b n).1 = b := by
    rcases Px.cancel_adv h.ok n with ⟨_, e⟩ | ⟨e, _⟩
    · exact e
    · rw [e] at q; exact absurd q (by decide)
  rcases Px.cancel_codes b n with q0 | q0 | ⟨_, q1⟩
  · omega
  · omega
  · rw [e, ← h.room]; exact q1
theorem open_same {b : Px.Bo} {l r : Int} {t : ByteArray} {c g : Int} (h : Px.KI b l r t c g) {s : Px.St} {q : ByteArray} {n : Int} (hs : Bx.Says true Bx.first b.log (Px.abs s) q) (hn : n + (q.size : Int) = (b.log.size : Int)) : n = (b.log.size : Int) ∧ Px.openB l r s = Px.openB l r b.st := by
  obtain ⟨e1, e2⟩ := hs.uniq h.right
  refine ⟨?_, Px.openB_of e1⟩
  rw [e2] at hn
  have : (ByteArray.empty).size = 0 := rfl
  rw [this] at hn
  omega
set_option maxRecDepth 10000 in
set_option maxHeartbeats 4000000 in
theorem kwopen_any (w0 w : World) (P B : Nat) (l r : Int) (t : ByteArray) (c g : Int) (b : Px.Bo) (hT : TT w0) (hk : Px.KI b l r t c g) (h : KW w0 w P B l r t c g b) :
    Calls Tryz.prog 31 #[.pointer (some ⟨P, 0, none⟩)] w fun e w' => e = .returned (.bool true) ∧ ∃ B', KW w0 w' P B' l r t c g (Px.openB l r b.st) ∧ Far2 w w' P B ∧ w.heap.size ≤ B' := by
  have HW : Hid (KW w0 w P B l r t c g b) := h
  have HK : Hid (Px.KI b l r t c g) := hk
  have HT : Hid (TT w.drew) := hT.later (h.bl.drew)
  have c0 : w.cell? ⟨P, 0, none⟩ = some (.pointer (some ⟨B, 0, none⟩)) := h.p.c 0 _ rfl
  have c1 : w.cell? ⟨P, 1, none⟩ = some (.int .i64 l) := h.p.c 1 _ rfl
  have c2 : w.cell? ⟨P, 2, none⟩ = some (.int .i64 r) := h.p.c 2 _ rfl
  have hP := h.p.ty.lt
  have hll := kil hk
  have HM : Hid (mayB l r = true ∧ b.log.size ≤ 4000) := ⟨hll.2.2.2.1, hll.2.2.2.2⟩
  clear h hk hT hll
  go_enter Tryz.func31, Tryz.ntmps31
  go_wp2_with fail
  refine (klog_any b B w0 _ HW.out.b).mono ?_
  rintro e w1 ⟨rfl, h2⟩
  have h3 := h2.symm
  subst h3
  clear h2
  go_wp2_with fail
  go_region_held3 (fun w' => ∀ b o, b < w.heap.size → w'.cell? ⟨b, o, none⟩ = w.cell? ⟨b, o, none⟩)
    ((intro b' o' h1; first | (exact hbC.cell (p := ⟨b', o', none⟩) h1) | rfl))
    ((go_at_call 34; refine (popen_yes l r b.log _ HM.out.1 HM.out.2 HT.out).mono ?_; rintro e w5 ⟨s, q, n, B', rfl, hs, hn, hKB⟩; have hbC : Below w.heap.size w w5 := (Below.refl _ _).drew.trans hKB.bl))
  rename ∀ (b o : Nat), b < w.heap.size → w5.cell? ⟨b, o, none⟩ = w.cell? ⟨b, o, none⟩ => hSold
  obtain ⟨e1, e2⟩ := open_same HK.out hs hn
  subst e1
  have hKB2 : KB w.drew w5 B' (Px.openB l r b.st) := by rw [← e2]; exact hKB
  have hp5 := HW.out.p.later hbC
  have c0' : w5.cell? ⟨P, 0, none⟩ = some (.pointer (some ⟨B, 0, none⟩)) := hp5.c 0 _ rfl
  have f0 := hp5.f 0 (by simp)
  have hP5 := hp5.ty.lt
  have HX : Hid (KW w0 (w5.setCell ⟨P, 0, none⟩ (.pointer (some ⟨B', 0, none⟩))) P B' l r t c g (Px.openB l r b.st) ∧ Far2 w (w5.setCell ⟨P, 0, none⟩ (.pointer (some ⟨B', 0, none⟩))) P B ∧ w.heap.size ≤ B') := by
    obtain ⟨sl, en, hp⟩ := hKB2.pb
    have hlo := HW.out.lo
    have hB1 : w.heap.size ≤ B' := hKB2.lo
    have hbl := HW.out.bl
    exact ⟨⟨hp5.set 0 (by simp) _, ⟨Nat.le_trans hbl.size hB1, (hbl.trans (hbC.mono hbl.size)).setCell hlo _, sl, en, hp.far hp5.ty (by decide) (by decide) (by decide) _ _⟩, hlo⟩, (Far2.below hbC).trans (Far2.set _ _), hB1⟩
  clear hSold c0 c1 c2 hs hn e2 hKB hKB2 hp5 hbC
  go_wp2_with fail
  go_ret
  exact ⟨rfl, B', HX.out⟩
/-- What a step makes: the clock, how many numbers were given, the box. -/
noncomputable def stp (l r k n : Int) (s : ByteArray) (c g : Int) (b : Px.Bo) : Int × Int × Px.Bo :=
  if k = 1 then onS c g n b else if k = 2 then (c, g, (Px.startB b (1 + pk n (g + 1))).1) else if k = 3 then (c, g, (Px.feedB b (1 + pk n (g + 1)) (fedS s)).1)
  else if k = 4 then (c, g, (Px.cancelB b (1 + pk n (g + 1))).1) else if k = 5 then (c, g, Px.compB b) else if k = 6 then (c, g, Px.openB l r b.st) else (c, g, b)
theorem KI.on {b : Px.Bo} {l r : Int} {t : ByteArray} {c g : Int} (h : Px.KI b l r t c g) (n : Int) (c0 : 0 ≤ c) (c1 : c ≤ 4223371679) : Px.KI (onS c g n b).2.2 l r t (onS c g n b).1 (onS c g n b).2.1 ∧ 0 ≤ (onS c g n b).1 ∧ (onS c g n b).1 ≤ 4223371679 := by
  have hp := pk_bd n 1500 (by decide)
  unfold onS
  by_cases h1 : 4223371679 < c + 1 + pk n 1500
  · rw [if_pos h1]; exact ⟨h, c0, c1⟩
  · rw [if_neg h1]
    by_cases h2 : (Px.tickB b (c + 1 + pk n 1500)).2.2 = 0
    · rw [if_pos h2]
      obtain ⟨q1, q2⟩ := h.tick _ h2
      exact ⟨by rw [q1]; exact q2, by show 0 ≤ c + 1 + pk n 1500; omega, by show c + 1 + pk n 1500 ≤ 4223371679; omega⟩
    · rw [if_neg h2]; exact ⟨h, c0, c1⟩
theorem KI.step {b : Px.Bo} {l r : Int} {t : ByteArray} {c g : Int} (h : Px.KI b l r t c g) (k n : Int) (s : ByteArray) (c0 : 0 ≤ c) (c1 : c ≤ 4223371679) :
    Px.KI (stp l r k n s c g b).2.2 l r t (stp l r k n s c g b).1 (stp l r k n s c g b).2.1 ∧ 0 ≤ (stp l r k n s c g b).1 ∧ (stp l r k n s c g b).1 ≤ 4223371679 := by
  unfold stp
  by_cases h1 : k = 1
  · rw [if_pos h1]; exact KI.on h n c0 c1
  rw [if_neg h1]
  by_cases h2 : k = 2
  · rw [if_pos h2]; exact ⟨h.start _, c0, c1⟩
  rw [if_neg h2]
  by_cases h3 : k = 3
  · rw [if_pos h3]; exact ⟨h.feed _ _, c0, c1⟩
  rw [if_neg h3]
  by_cases h4 : k = 4
  · rw [if_pos h4]; exact ⟨h.cancel _, c0, c1⟩
  rw [if_neg h4]
  by_cases h5 : k = 5
  · rw [if_pos h5]; exact ⟨h.comp, c0, c1⟩
  rw [if_neg h5]
  by_cases h6 : k = 6
  · rw [if_pos h6]
    have hk := Px.KI.opened (kil h).2.2.2.1 h.may h.nxt
    rw [h.tab, h.clk] at hk
    exact ⟨hk, c0, c1⟩
  rw [if_neg h6]; exact ⟨h, c0, c1⟩
end Go.Proofs.YtdajolpoiffimabGreatDoor

namespace Go.Proofs.YtdajolpoiffimabGreatDoor
open Go.RowKit

abbrev skV (k n : Int) (s : ByteArray) : Value := .agg #[.int .i64 k, .int .i64 n, .string s]
abbrev skO (k n : Int) (s : ByteArray) : Obj := .cells #[.int .i64 k, .int .i64 n, .string s] 26
/-- What a step leaves. -/
def KStR (w0 w w' : World) (P B : Nat) (l r : Int) (t : ByteArray) (x : Int × Int × Px.Bo) : Prop := ∃ B', KW w0 w' P B' l r t x.1 x.2.1 x.2.2 ∧ Far2 w w' P B ∧ (B' = B ∨ w.heap.size ≤ B')
theorem xcancel_any (b : Px.Bo) (B : Nat) (n : Int) (w0 w : World) (hO : Px.Ok b.st) (hlg : b.log.size ≤ 10000) (hB : KB w0 w B b) :
    Calls Tryz.prog 30 #[.pointer (some ⟨B, 0, none⟩), .int .i64 n] w fun e w' => e = .returned (.int .i64 (Px.cancelB b n).2) ∧ KB w0 w' B (Px.cancelB b n).1 ∧ w.grownBy w' (some B) := by
  obtain ⟨sl, en, hp⟩ := hB.pb
  refine (pcancel_any b B n sl en w hO hlg hp).mono fun e w' h => ?_
  cases h with
  | mk _ hb hg => exact ⟨rfl, hB.grow hg hb, hg⟩
theorem xfeed2_any (b : Px.Bo) (B : Nat) (n : Int) (x : ByteArray) (w0 w : World) (hO : Px.Ok b.st) (hlg : b.log.size ≤ 10000) (hT : TT w0) (hB : KB w0 w B b) (y : ByteArray) (er : Int) (he : (Px.feedB b n x).2 = (y, er)) :
    Calls Tryz.prog 28 #[.pointer (some ⟨B, 0, none⟩), .int .i64 n, .string x] w fun e w' => e = .returned (.tuple #[.string y, .int .i64 er]) ∧ KB w0 w' B (Px.feedB b n x).1 ∧ w.grownBy w' (some B) := by
  have h := kfeed_any b B n x w0 w hO hlg hT hB
  rw [he] at h; exact h
theorem xstart2_any (b : Px.Bo) (B : Nat) (n : Int) (w0 w : World) (hO : Px.Ok b.st) (hlg : b.log.size ≤ 10000) (hT : TT w0) (hB : KB w0 w B b) (y : ByteArray) (er : Int) (he : (Px.startB b n).2 = (y, er)) :
    Calls Tryz.prog 25 #[.pointer (some ⟨B, 0, none⟩), .int .i64 n] w fun e w' => e = .returned (.tuple #[.string y, .int .i64 er]) ∧ KB w0 w' B (Px.startB b n).1 ∧ w.grownBy w' (some B) := by
  have h := kstart_any b B n w0 w hO hlg hT hB
  rw [he] at h; exact h
set_option maxRecDepth 10000 in
set_option maxHeartbeats 4000000 in
theorem kstep_1 (n : Int) (s : ByteArray) (w0 w : World) (P B : Nat) (l r : Int) (t : ByteArray) (c g : Int) (b : Px.Bo) (hn : I64 n) (hs : s.size ≤ maxLen) (c0 : 0 ≤ c) (c1 : c ≤ 4223371679) (hT : TT w0) (hk : Px.KI b l r t c g) (h : KW w0 w P B l r t c g b) :
    Calls Tryz.prog 7 #[.pointer (some ⟨P, 0, none⟩), skV 1 n s] w fun e w' => e = .returned (.bool true) ∧ KStR w0 w w' P B l r t (stp l r 1 n s c g b) := by
  have hb0 := below_alloc w (skO 1 n s)
  have ho := Cl.new w [.int .i64 1, .int .i64 n, .string s] 26
  have hW0 := h.later hb0
  have hne := h.ne
  have hBw : B < w.heap.size := h.b.typ.lt
  have HK : Hid (Px.KI b l r t c g) := hk
  have HT : Hid (TT w0) := hT
  have HN : Hid (I64 n) := hn
  have HSz : Hid (s.size ≤ maxLen) := hs
  have hg9 := kig hk
  have hll := kil hk
  clear h hk hT hn hs
  go_enter Tryz.func7, Tryz.ntmps7
  go_upto_region 1 with fail
  have ho' : Cl (w.alloc (skO 1 n s)) w.heap.size 26 [.int .i64 1, .int .i64 n, .string s] := ho
  clear ho
  have HF0 : Hid (Far2 w (w.alloc (skO 1 n s)) P B) := Far2.below hb0
  clear hb0
  generalize w.alloc (skO 1 n s) = W at *
  have HW : Hid (KW w0 W P B l r t c g b) := hW0
  have o0 : W.cell? ⟨w.heap.size, 0, none⟩ = some (.int .i64 1) := ho'.c 0 _ rfl
  have o1 : W.cell? ⟨w.heap.size, 1, none⟩ = some (.int .i64 n) := ho'.c 1 _ rfl
  have o2 : W.cell? ⟨w.heap.size, 2, none⟩ = some (.string s) := ho'.c 2 _ rfl
  have p0 : W.cell? ⟨P, 0, none⟩ = some (.pointer (some ⟨B, 0, none⟩)) := hW0.p.c 0 _ rfl
  have hPW := hW0.p.ty.lt
  have hOW := ho'.ty.lt
  clear hW0 ho'
  have HSt : Hid (stp l r 1 n s c g b = onS c g n b) := by unfold Hid stp; simp
  go_wp2_with fail
  refine (kon_any n w0 W P B l r t c g b HN.out c0 c1 HT.out HK.out HW.out).mono ?_
  rintro e w1 ⟨rfl, hW1, hF1⟩
  have HX : Hid (KStR w0 w w1 P B l r t (stp l r 1 n s c g b)) := by unfold Hid; rw [HSt.out]; exact ⟨B, hW1, HF0.out.trans hF1, Or.inl rfl⟩
  clear hW1 hF1 o0 o1 o2 p0
  go_wp2_with fail
  go_ret
  exact ⟨rfl, HX.out⟩
set_option maxRecDepth 10000 in
set_option maxHeartbeats 4000000 in
theorem kstep_2 (n : Int) (s : ByteArray) (w0 w : World) (P B : Nat) (l r : Int) (t : ByteArray) (c g : Int) (b : Px.Bo) (hn : I64 n) (hs : s.size ≤ maxLen) (_c0 : 0 ≤ c) (_c1 : c ≤ 4223371679) (hT : TT w0) (hk : Px.KI b l r t c g) (h : KW w0 w P B l r t c g b) :
    Calls Tryz.prog 7 #[.pointer (some ⟨P, 0, none⟩), skV 2 n s] w fun e w' => e = .returned (.bool true) ∧ KStR w0 w w' P B l r t (stp l r 2 n s c g b) := by
  have hb0 := below_alloc w (skO 2 n s)
  have ho := Cl.new w [.int .i64 2, .int .i64 n, .string s] 26
  have hW0 := h.later hb0
  have hne := h.ne
  have hBw : B < w.heap.size := h.b.typ.lt
  have HK : Hid (Px.KI b l r t c g) := hk
  have HT : Hid (TT w0) := hT
  have HN : Hid (I64 n) := hn
  have HSz : Hid (s.size ≤ maxLen) := hs
  have hg9 := kig hk
  have hll := kil hk
  clear h hk hT hn hs
  go_enter Tryz.func7, Tryz.ntmps7
  go_upto_region 1 with fail
  have ho' : Cl (w.alloc (skO 2 n s)) w.heap.size 26 [.int .i64 2, .int .i64 n, .string s] := ho
  clear ho
  have HF0 : Hid (Far2 w (w.alloc (skO 2 n s)) P B) := Far2.below hb0
  clear hb0
  generalize w.alloc (skO 2 n s) = W at *
  have HW : Hid (KW w0 W P B l r t c g b) := hW0
  have o0 : W.cell? ⟨w.heap.size, 0, none⟩ = some (.int .i64 2) := ho'.c 0 _ rfl
  have o1 : W.cell? ⟨w.heap.size, 1, none⟩ = some (.int .i64 n) := ho'.c 1 _ rfl
  have o2 : W.cell? ⟨w.heap.size, 2, none⟩ = some (.string s) := ho'.c 2 _ rfl
  have p0 : W.cell? ⟨P, 0, none⟩ = some (.pointer (some ⟨B, 0, none⟩)) := hW0.p.c 0 _ rfl
  have hPW := hW0.p.ty.lt
  have hOW := ho'.ty.lt
  clear hW0 ho'
  obtain ⟨N, hN⟩ : ∃ N, 1 + pk n (g + 1) = N := ⟨_, rfl⟩
  have HSt : Hid (stp l r 2 n s c g b = (c, g, (Px.startB b N).1)) := by unfold Hid stp; rw [← hN]; simp
  have HNm : Hid (∀ wq : World, KW w0 wq P B l r t c g b → Calls Tryz.prog 26 #[.pointer (some ⟨P, 0, none⟩), .int .i64 n] wq fun e w' => e = .returned (.int .i64 N) ∧ w' = wq) := fun wq hq => by rw [← hN]; exact knumber_any n w0 wq P B l r t c g b HN.out hg9.1 hg9.2 hq
  clear hN
  have HWd : Hid (KW w0 W.drew P B l r t c g b) := HW.out.later (Below.refl _ _).drew
  have HnP : Hid (some P ≠ some B) := fun e => hne (by simpa using e)
  have HnO : Hid (some w.heap.size ≠ some B) := fun e => by simp at e; omega
  have hKI2 := HK.out.start N
  have HKI2 : Hid (Px.KI (Px.startB b N).1 l r t c g) := hKI2
  have hcod := Px.start_codes b N
  have HFar : Hid _ := far_start HK.out N
  obtain ⟨y, er, hxr⟩ : ∃ y er, (Px.startB b N).2 = (y, er) := ⟨_, _, rfl⟩
  rw [hxr] at hcod HFar
  have HXR : Hid ((Px.startB b N).2 = (y, er)) := hxr
  clear hxr hKI2
  go_wp2_with fail
  go_region_held3 (fun w' => w'.cell? ⟨P, 0, none⟩ = some (.pointer (some ⟨B, 0, none⟩)) ∧ w'.cell? ⟨w.heap.size, 1, none⟩ = some (.int .i64 n) )
      (first | exact ⟨hg6.cell p0 HnP.out, hg6.cell o1 HnO.out⟩ | exact ⟨p0, o1⟩)
      ((first
        | (go_at_call 26; refine (HNm.out _ HWd.out).mono ?_; rintro e w5 ⟨rfl, rfl⟩)
        | (go_at_call 25; refine (xstart2_any b B N w0 _ HK.out.ok hll.1 HT.out HWd.out.b y er HXR.out).mono ?_; rintro e w6 ⟨rfl, hK6, hg6⟩)))
  have hW6 := HWd.out.call hK6 hg6
  have HW6 : Hid (KW w0 w6 P B l r t c g (Px.startB b N).1) := hW6
  have HX : Hid (KStR w0 w w6 P B l r t (stp l r 2 n s c g b)) := by
    unfold Hid; rw [HSt.out]
    exact ⟨B, hW6, HF0.out.trans ((Far2.below (Below.refl _ _).drew).trans (Far2.grow hg6)), Or.inl rfl⟩
  clear hW6 hK6 hg6 o0 o1 o2 p0 HNm HWd
  have hl2 := (kil HKI2.out).1
  rcases hcod with rfl | ⟨h8, h12⟩ | ⟨rfl, _⟩
  · go_wp2_with fail
    refine (kmay_any 0 18 w0 _ P B l r t c g _ (by decide) (by decide) hl2 HW6.out (fun q => HFar.out (by first | exact q | trivial))).mono ?_
    rintro e w7 ⟨rfl, hw7⟩
    have hw7s := hw7.symm
    subst hw7s
    clear hw7
    go_wp2_with fail
    go_ret
    exact ⟨rfl, HX.out⟩
  · have hn0 : ¬ er = 0 := by omega
    have hn13 : ¬ er = 13 := by omega
    go_wp2_with fail
    refine (kmay_any er 18 w0 _ P B l r t c g _ (by decide) (by decide) hl2 HW6.out (fun q => HFar.out (by first | exact q | trivial))).mono ?_
    rintro e w7 ⟨rfl, hw7⟩
    have hw7s := hw7.symm
    subst hw7s
    clear hw7
    go_wp2_with fail
    go_ret
    exact ⟨rfl, HX.out⟩
  · go_wp2_with fail
    refine (kmay_any 13 18 w0 _ P B l r t c g _ (by decide) (by decide) hl2 HW6.out (fun q => HFar.out (by first | exact q | trivial))).mono ?_
    rintro e w7 ⟨rfl, hw7⟩
    have hw7s := hw7.symm
    subst hw7s
    clear hw7
    go_wp2_with fail
    go_ret
    exact ⟨rfl, HX.out⟩
set_option maxRecDepth 10000 in
set_option maxHeartbeats 4000000 in
theorem kstep_3 (n : Int) (s : ByteArray) (w0 w : World) (P B : Nat) (l r : Int) (t : ByteArray) (c g : Int) (b : Px.Bo) (hn : I64 n) (hs : s.size ≤ maxLen) (_c0 : 0 ≤ c) (_c1 : c ≤ 4223371679) (hT : TT w0) (hk : Px.KI b l r t c g) (h : KW w0 w P B l r t c g b) :
    Calls Tryz.prog 7 #[.pointer (some ⟨P, 0, none⟩), skV 3 n s] w fun e w' => e = .returned (.bool true) ∧ KStR w0 w w' P B l r t (stp l r 3 n s c g b) := by
  have hb0 := below_alloc w (skO 3 n s)
  have ho := Cl.new w [.int .i64 3, .int .i64 n, .string s] 26
  have hW0 := h.later hb0
  have hne := h.ne
  have hBw : B < w.heap.size := h.b.typ.lt
  have HK : Hid (Px.KI b l r t c g) := hk
  have HT : Hid (TT w0) := hT
  have HN : Hid (I64 n) := hn
  have HSz : Hid (s.size ≤ maxLen) := hs
  have hg9 := kig hk
  have hll := kil hk
  clear h hk hT hn hs
  go_enter Tryz.func7, Tryz.ntmps7
  go_upto_region 1 with fail
  have ho' : Cl (w.alloc (skO 3 n s)) w.heap.size 26 [.int .i64 3, .int .i64 n, .string s] := ho
  clear ho
  have HF0 : Hid (Far2 w (w.alloc (skO 3 n s)) P B) := Far2.below hb0
  clear hb0
  generalize w.alloc (skO 3 n s) = W at *
  have HW : Hid (KW w0 W P B l r t c g b) := hW0
  have o0 : W.cell? ⟨w.heap.size, 0, none⟩ = some (.int .i64 3) := ho'.c 0 _ rfl
  have o1 : W.cell? ⟨w.heap.size, 1, none⟩ = some (.int .i64 n) := ho'.c 1 _ rfl
  have o2 : W.cell? ⟨w.heap.size, 2, none⟩ = some (.string s) := ho'.c 2 _ rfl
  have p0 : W.cell? ⟨P, 0, none⟩ = some (.pointer (some ⟨B, 0, none⟩)) := hW0.p.c 0 _ rfl
  have hPW := hW0.p.ty.lt
  have hOW := ho'.ty.lt
  clear hW0 ho'
  obtain ⟨N, hN⟩ : ∃ N, 1 + pk n (g + 1) = N := ⟨_, rfl⟩
  have HSt : Hid (stp l r 3 n s c g b = (c, g, (Px.feedB b N (fedS s)).1)) := by unfold Hid stp; rw [← hN]; simp
  have HNm : Hid (∀ wq : World, KW w0 wq P B l r t c g b → Calls Tryz.prog 26 #[.pointer (some ⟨P, 0, none⟩), .int .i64 n] wq fun e w' => e = .returned (.int .i64 N) ∧ w' = wq) := fun wq hq => by rw [← hN]; exact knumber_any n w0 wq P B l r t c g b HN.out hg9.1 hg9.2 hq
  clear hN
  have HWd : Hid (KW w0 W.drew P B l r t c g b) := HW.out.later (Below.refl _ _).drew
  have HnP : Hid (some P ≠ some B) := fun e => hne (by simpa using e)
  have HnO : Hid (some w.heap.size ≠ some B) := fun e => by simp at e; omega
  have hKI2 := HK.out.feed N (fedS s)
  have HKI2 : Hid (Px.KI (Px.feedB b N (fedS s)).1 l r t c g) := hKI2
  have hcod := Px.feed_codes b N (fedS s) (fedS_le s)
  have HFar : Hid _ := far_feed HK.out N (fedS s) (fedS_le s)
  obtain ⟨y, er, hxr⟩ : ∃ y er, (Px.feedB b N (fedS s)).2 = (y, er) := ⟨_, _, rfl⟩
  rw [hxr] at hcod HFar
  have HXR : Hid ((Px.feedB b N (fedS s)).2 = (y, er)) := hxr
  clear hxr hKI2
  go_wp2_with fail
  go_region_held3 (fun w' => w'.cell? ⟨P, 0, none⟩ = some (.pointer (some ⟨B, 0, none⟩)) ∧ w'.cell? ⟨w.heap.size, 1, none⟩ = some (.int .i64 n) ∧ w'.cell? ⟨w.heap.size, 2, none⟩ = some (.string s))
      (first | exact ⟨hg6.cell p0 HnP.out, hg6.cell o1 HnO.out, hg6.cell o2 HnO.out⟩ | exact ⟨p0, o1, o2⟩)
      ((first
        | (go_at_call 26; refine (HNm.out _ HWd.out).mono ?_; rintro e w5 ⟨rfl, rfl⟩)
        | (go_at_call 29; refine (kfed_any s _ HSz.out).mono ?_; rintro e w5 ⟨rfl, rfl⟩)
        | (go_at_call 28; refine (xfeed2_any b B N (fedS s) w0 _ HK.out.ok hll.1 HT.out HWd.out.b y er HXR.out).mono ?_; rintro e w6 ⟨rfl, hK6, hg6⟩)))
  have hW6 := HWd.out.call hK6 hg6
  have HW6 : Hid (KW w0 w6 P B l r t c g (Px.feedB b N (fedS s)).1) := hW6
  have HX : Hid (KStR w0 w w6 P B l r t (stp l r 3 n s c g b)) := by
    unfold Hid; rw [HSt.out]
    exact ⟨B, hW6, HF0.out.trans ((Far2.below (Below.refl _ _).drew).trans (Far2.grow hg6)), Or.inl rfl⟩
  clear hW6 hK6 hg6 o0 o1 o2 p0 HNm HWd
  have hl2 := (kil HKI2.out).1
  rcases hcod with rfl | rfl | rfl | ⟨rfl, _⟩
  · go_wp2_with fail
    refine (kmay_any 0 9 w0 _ P B l r t c g _ (by decide) (by decide) hl2 HW6.out (fun q => HFar.out (by first | exact q | trivial))).mono ?_
    rintro e w7 ⟨rfl, hw7⟩
    have hw7s := hw7.symm
    subst hw7s
    clear hw7
    go_wp2_with fail
    go_ret
    exact ⟨rfl, HX.out⟩
  · go_wp2_with fail
    refine (kmay_any 8 9 w0 _ P B l r t c g _ (by decide) (by decide) hl2 HW6.out (fun q => HFar.out (by first | exact q | trivial))).mono ?_
    rintro e w7 ⟨rfl, hw7⟩
    have hw7s := hw7.symm
    subst hw7s
    clear hw7
    go_wp2_with fail
    go_ret
    exact ⟨rfl, HX.out⟩
  · go_wp2_with fail
    refine (kmay_any 9 9 w0 _ P B l r t c g _ (by decide) (by decide) hl2 HW6.out (fun q => HFar.out (by first | exact q | trivial))).mono ?_
    rintro e w7 ⟨rfl, hw7⟩
    have hw7s := hw7.symm
    subst hw7s
    clear hw7
    go_wp2_with fail
    go_ret
    exact ⟨rfl, HX.out⟩
  · go_wp2_with fail
    refine (kmay_any 13 9 w0 _ P B l r t c g _ (by decide) (by decide) hl2 HW6.out (fun q => HFar.out (by first | exact q | trivial))).mono ?_
    rintro e w7 ⟨rfl, hw7⟩
    have hw7s := hw7.symm
    subst hw7s
    clear hw7
    go_wp2_with fail
    go_ret
    exact ⟨rfl, HX.out⟩
set_option maxRecDepth 10000 in
set_option maxHeartbeats 4000000 in
theorem kstep_4 (n : Int) (s : ByteArray) (w0 w : World) (P B : Nat) (l r : Int) (t : ByteArray) (c g : Int) (b : Px.Bo) (hn : I64 n) (hs : s.size ≤ maxLen) (_c0 : 0 ≤ c) (_c1 : c ≤ 4223371679) (hT : TT w0) (hk : Px.KI b l r t c g) (h : KW w0 w P B l r t c g b) :
    Calls Tryz.prog 7 #[.pointer (some ⟨P, 0, none⟩), skV 4 n s] w fun e w' => e = .returned (.bool true) ∧ KStR w0 w w' P B l r t (stp l r 4 n s c g b) := by
  have hb0 := below_alloc w (skO 4 n s)
  have ho := Cl.new w [.int .i64 4, .int .i64 n, .string s] 26
  have hW0 := h.later hb0
  have hne := h.ne
  have hBw : B < w.heap.size := h.b.typ.lt
  have HK : Hid (Px.KI b l r t c g) := hk
  have HT : Hid (TT w0) := hT
  have HN : Hid (I64 n) := hn
  have HSz : Hid (s.size ≤ maxLen) := hs
  have hg9 := kig hk
  have hll := kil hk
  clear h hk hT hn hs
  go_enter Tryz.func7, Tryz.ntmps7
  go_upto_region 1 with fail
  have ho' : Cl (w.alloc (skO 4 n s)) w.heap.size 26 [.int .i64 4, .int .i64 n, .string s] := ho
  clear ho
  have HF0 : Hid (Far2 w (w.alloc (skO 4 n s)) P B) := Far2.below hb0
  clear hb0
  generalize w.alloc (skO 4 n s) = W at *
  have HW : Hid (KW w0 W P B l r t c g b) := hW0
  have o0 : W.cell? ⟨w.heap.size, 0, none⟩ = some (.int .i64 4) := ho'.c 0 _ rfl
  have o1 : W.cell? ⟨w.heap.size, 1, none⟩ = some (.int .i64 n) := ho'.c 1 _ rfl
  have o2 : W.cell? ⟨w.heap.size, 2, none⟩ = some (.string s) := ho'.c 2 _ rfl
  have p0 : W.cell? ⟨P, 0, none⟩ = some (.pointer (some ⟨B, 0, none⟩)) := hW0.p.c 0 _ rfl
  have hPW := hW0.p.ty.lt
  have hOW := ho'.ty.lt
  clear hW0 ho'
  obtain ⟨N, hN⟩ : ∃ N, 1 + pk n (g + 1) = N := ⟨_, rfl⟩
  have HSt : Hid (stp l r 4 n s c g b = (c, g, (Px.cancelB b N).1)) := by unfold Hid stp; rw [← hN]; simp
  have HNm : Hid (∀ wq : World, KW w0 wq P B l r t c g b → Calls Tryz.prog 26 #[.pointer (some ⟨P, 0, none⟩), .int .i64 n] wq fun e w' => e = .returned (.int .i64 N) ∧ w' = wq) := fun wq hq => by rw [← hN]; exact knumber_any n w0 wq P B l r t c g b HN.out hg9.1 hg9.2 hq
  clear hN
  have HWd : Hid (KW w0 W.drew P B l r t c g b) := HW.out.later (Below.refl _ _).drew
  have HnP : Hid (some P ≠ some B) := fun e => hne (by simpa using e)
  have HnO : Hid (some w.heap.size ≠ some B) := fun e => by simp at e; omega
  have hKI2 := HK.out.cancel N
  have HKI2 : Hid (Px.KI (Px.cancelB b N).1 l r t c g) := hKI2
  have hcod := Px.cancel_codes b N
  have HFar : Hid _ := far_cancel HK.out N
  obtain ⟨er, hxr⟩ : ∃ er, (Px.cancelB b N).2 = er := ⟨_, rfl⟩
  rw [hxr] at hcod HFar
  have HXR : Hid ((Px.cancelB b N).2 = er) := hxr
  clear hxr hKI2
  go_wp2_with fail
  go_region_held3 (fun w' => w'.cell? ⟨P, 0, none⟩ = some (.pointer (some ⟨B, 0, none⟩)) ∧ w'.cell? ⟨w.heap.size, 1, none⟩ = some (.int .i64 n) )
      (first | exact ⟨hg6.cell p0 HnP.out, hg6.cell o1 HnO.out⟩ | exact ⟨p0, o1⟩)
      ((first
        | (go_at_call 26; refine (HNm.out _ HWd.out).mono ?_; rintro e w5 ⟨rfl, rfl⟩)
        | (go_at_call 30; refine (xcancel_any b B N w0 _ HK.out.ok hll.1 HWd.out.b).mono ?_; rw [HXR.out]; rintro e w6 ⟨rfl, hK6, hg6⟩)))
  have hW6 := HWd.out.call hK6 hg6
  have HW6 : Hid (KW w0 w6 P B l r t c g (Px.cancelB b N).1) := hW6
  have HX : Hid (KStR w0 w w6 P B l r t (stp l r 4 n s c g b)) := by
    unfold Hid; rw [HSt.out]
    exact ⟨B, hW6, HF0.out.trans ((Far2.below (Below.refl _ _).drew).trans (Far2.grow hg6)), Or.inl rfl⟩
  clear hW6 hK6 hg6 o0 o1 o2 p0 HNm HWd
  have hl2 := (kil HKI2.out).1
  rcases hcod with rfl | rfl | ⟨rfl, _⟩
  · go_wp2_with fail
    refine (kmay_any 0 9 w0 _ P B l r t c g _ (by decide) (by decide) hl2 HW6.out (fun q => HFar.out (by first | exact q | trivial))).mono ?_
    rintro e w7 ⟨rfl, hw7⟩
    have hw7s := hw7.symm
    subst hw7s
    clear hw7
    go_wp2_with fail
    go_ret
    exact ⟨rfl, HX.out⟩
  · go_wp2_with fail
    refine (kmay_any 8 9 w0 _ P B l r t c g _ (by decide) (by decide) hl2 HW6.out (fun q => HFar.out (by first | exact q | trivial))).mono ?_
    rintro e w7 ⟨rfl, hw7⟩
    have hw7s := hw7.symm
    subst hw7s
    clear hw7
    go_wp2_with fail
    go_ret
    exact ⟨rfl, HX.out⟩
  · go_wp2_with fail
    refine (kmay_any 13 9 w0 _ P B l r t c g _ (by decide) (by decide) hl2 HW6.out (fun q => HFar.out (by first | exact q | trivial))).mono ?_
    rintro e w7 ⟨rfl, hw7⟩
    have hw7s := hw7.symm
    subst hw7s
    clear hw7
    go_wp2_with fail
    go_ret
    exact ⟨rfl, HX.out⟩
set_option maxRecDepth 10000 in
set_option maxHeartbeats 4000000 in
theorem kstep_5 (n : Int) (s : ByteArray) (w0 w : World) (P B : Nat) (l r : Int) (t : ByteArray) (c g : Int) (b : Px.Bo) (hn : I64 n) (hs : s.size ≤ maxLen) (_c0 : 0 ≤ c) (_c1 : c ≤ 4223371679) (hT : TT w0) (hk : Px.KI b l r t c g) (h : KW w0 w P B l r t c g b) :
    Calls Tryz.prog 7 #[.pointer (some ⟨P, 0, none⟩), skV 5 n s] w fun e w' => e = .returned (.bool true) ∧ KStR w0 w w' P B l r t (stp l r 5 n s c g b) := by
  have hb0 := below_alloc w (skO 5 n s)
  have ho := Cl.new w [.int .i64 5, .int .i64 n, .string s] 26
  have hW0 := h.later hb0
  have hne := h.ne
  have hBw : B < w.heap.size := h.b.typ.lt
  have HK : Hid (Px.KI b l r t c g) := hk
  have HT : Hid (TT w0) := hT
  have HN : Hid (I64 n) := hn
  have HSz : Hid (s.size ≤ maxLen) := hs
  have hg9 := kig hk
  have hll := kil hk
  clear h hk hT hn hs
  go_enter Tryz.func7, Tryz.ntmps7
  go_upto_region 1 with fail
  have ho' : Cl (w.alloc (skO 5 n s)) w.heap.size 26 [.int .i64 5, .int .i64 n, .string s] := ho
  clear ho
  have HF0 : Hid (Far2 w (w.alloc (skO 5 n s)) P B) := Far2.below hb0
  clear hb0
  generalize w.alloc (skO 5 n s) = W at *
  have HW : Hid (KW w0 W P B l r t c g b) := hW0
  have o0 : W.cell? ⟨w.heap.size, 0, none⟩ = some (.int .i64 5) := ho'.c 0 _ rfl
  have o1 : W.cell? ⟨w.heap.size, 1, none⟩ = some (.int .i64 n) := ho'.c 1 _ rfl
  have o2 : W.cell? ⟨w.heap.size, 2, none⟩ = some (.string s) := ho'.c 2 _ rfl
  have p0 : W.cell? ⟨P, 0, none⟩ = some (.pointer (some ⟨B, 0, none⟩)) := hW0.p.c 0 _ rfl
  have hPW := hW0.p.ty.lt
  have hOW := ho'.ty.lt
  clear hW0 ho'
  have HSt : Hid (stp l r 5 n s c g b = (c, g, Px.compB b)) := by unfold Hid stp; simp
  go_wp2_with fail
  refine (kcompact_any b B w0 _ HK.out.may HW.out.b).mono ?_
  have hz : 18 ≤ (Px.compB b).log.size := Px.whole_ge _
  have hz2 : (Px.compB b).log.size ≤ 456 := Px.whole_le HK.out.may
  rintro e w1 ⟨rfl, hK1, hg1⟩
  have HX : Hid (KStR w0 w w1 P B l r t (stp l r 5 n s c g b)) := by unfold Hid; rw [HSt.out]; exact ⟨B, HW.out.call hK1 hg1, HF0.out.trans (Far2.grow hg1), Or.inl rfl⟩
  clear hK1 hg1 o0 o1 o2 p0 HSt
  have hz3 : (0 : Int) < ((Px.compB b).log.size : Int) := by omega
  generalize ((Px.compB b).log.size : Int) = zz at *
  have hd : decide (0 < zz) = true := decide_eq_true hz3
  go_wp2_with fail
  go_ret
  exact ⟨rfl, HX.out⟩
set_option maxRecDepth 10000 in
set_option maxHeartbeats 4000000 in
theorem kstep_6 (n : Int) (s : ByteArray) (w0 w : World) (P B : Nat) (l r : Int) (t : ByteArray) (c g : Int) (b : Px.Bo) (hn : I64 n) (hs : s.size ≤ maxLen) (_c0 : 0 ≤ c) (_c1 : c ≤ 4223371679) (hT : TT w0) (hk : Px.KI b l r t c g) (h : KW w0 w P B l r t c g b) :
    Calls Tryz.prog 7 #[.pointer (some ⟨P, 0, none⟩), skV 6 n s] w fun e w' => e = .returned (.bool true) ∧ KStR w0 w w' P B l r t (stp l r 6 n s c g b) := by
  have hb0 := below_alloc w (skO 6 n s)
  have ho := Cl.new w [.int .i64 6, .int .i64 n, .string s] 26
  have hW0 := h.later hb0
  have hne := h.ne
  have hBw : B < w.heap.size := h.b.typ.lt
  have HK : Hid (Px.KI b l r t c g) := hk
  have HT : Hid (TT w0) := hT
  have HN : Hid (I64 n) := hn
  have HSz : Hid (s.size ≤ maxLen) := hs
  have hg9 := kig hk
  have hll := kil hk
  clear h hk hT hn hs
  go_enter Tryz.func7, Tryz.ntmps7
  go_upto_region 1 with fail
  have ho' : Cl (w.alloc (skO 6 n s)) w.heap.size 26 [.int .i64 6, .int .i64 n, .string s] := ho
  clear ho
  have HF0 : Hid (Far2 w (w.alloc (skO 6 n s)) P B) := Far2.below hb0
  clear hb0
  generalize w.alloc (skO 6 n s) = W at *
  have HW : Hid (KW w0 W P B l r t c g b) := hW0
  have o0 : W.cell? ⟨w.heap.size, 0, none⟩ = some (.int .i64 6) := ho'.c 0 _ rfl
  have o1 : W.cell? ⟨w.heap.size, 1, none⟩ = some (.int .i64 n) := ho'.c 1 _ rfl
  have o2 : W.cell? ⟨w.heap.size, 2, none⟩ = some (.string s) := ho'.c 2 _ rfl
  have p0 : W.cell? ⟨P, 0, none⟩ = some (.pointer (some ⟨B, 0, none⟩)) := hW0.p.c 0 _ rfl
  have hPW := hW0.p.ty.lt
  have hOW := ho'.ty.lt
  clear hW0 ho'
  have HSt : Hid (stp l r 6 n s c g b = (c, g, Px.openB l r b.st)) := by unfold Hid stp; simp
  go_wp2_with fail
  refine (kwopen_any w0 W P B l r t c g b HT.out HK.out HW.out).mono ?_
  rintro e w1 ⟨rfl, B', hW1, hF1, hB1⟩
  have HX : Hid (KStR w0 w w1 P B l r t (stp l r 6 n s c g b)) := by unfold Hid; rw [HSt.out]; exact ⟨B', hW1, HF0.out.trans hF1, Or.inr (Nat.le_trans HF0.out.sz hB1)⟩
  clear hW1 hF1 hB1 o0 o1 o2 p0
  go_wp2_with fail
  go_ret
  exact ⟨rfl, HX.out⟩
set_option maxRecDepth 10000 in
set_option maxHeartbeats 4000000 in
theorem kstep_o (k n : Int) (s : ByteArray) (w0 w : World) (P B : Nat) (l r : Int) (t : ByteArray) (c g : Int) (b : Px.Bo) (hn : I64 n) (hs : s.size ≤ maxLen) (_c0 : 0 ≤ c) (_c1 : c ≤ 4223371679) (hT : TT w0) (hk : Px.KI b l r t c g) (h : KW w0 w P B l r t c g b) (k1 : ¬ k = 1) (k2 : ¬ k = 2) (k3 : ¬ k = 3) (k4 : ¬ k = 4) (k5 : ¬ k = 5) (k6 : ¬ k = 6) :
    Calls Tryz.prog 7 #[.pointer (some ⟨P, 0, none⟩), skV k n s] w fun e w' => e = .returned (.bool true) ∧ KStR w0 w w' P B l r t (stp l r k n s c g b) := by
  have hb0 := below_alloc w (skO k n s)
  have ho := Cl.new w [.int .i64 k, .int .i64 n, .string s] 26
  have hW0 := h.later hb0
  have hne := h.ne
  have hBw : B < w.heap.size := h.b.typ.lt
  have HK : Hid (Px.KI b l r t c g) := hk
  have HT : Hid (TT w0) := hT
  have HN : Hid (I64 n) := hn
  have HSz : Hid (s.size ≤ maxLen) := hs
  have hg9 := kig hk
  have hll := kil hk
  clear h hk hT hn hs
  go_enter Tryz.func7, Tryz.ntmps7
  go_upto_region 1 with fail
  have ho' : Cl (w.alloc (skO k n s)) w.heap.size 26 [.int .i64 k, .int .i64 n, .string s] := ho
  clear ho
  have HF0 : Hid (Far2 w (w.alloc (skO k n s)) P B) := Far2.below hb0
  clear hb0
  generalize w.alloc (skO k n s) = W at *
  have HW : Hid (KW w0 W P B l r t c g b) := hW0
  have o0 : W.cell? ⟨w.heap.size, 0, none⟩ = some (.int .i64 k) := ho'.c 0 _ rfl
  have o1 : W.cell? ⟨w.heap.size, 1, none⟩ = some (.int .i64 n) := ho'.c 1 _ rfl
  have o2 : W.cell? ⟨w.heap.size, 2, none⟩ = some (.string s) := ho'.c 2 _ rfl
  have p0 : W.cell? ⟨P, 0, none⟩ = some (.pointer (some ⟨B, 0, none⟩)) := hW0.p.c 0 _ rfl
  have hPW := hW0.p.ty.lt
  have hOW := ho'.ty.lt
  clear hW0 ho'
  have HSt : Hid (stp l r k n s c g b = (c, g, b)) := by unfold Hid stp; rw [if_neg k1, if_neg k2, if_neg k3, if_neg k4, if_neg k5, if_neg k6]
  have HX : Hid (KStR w0 w W P B l r t (stp l r k n s c g b)) := by unfold Hid; rw [HSt.out]; exact ⟨B, HW.out, HF0.out, Or.inl rfl⟩
  go_wp2_with fail
  go_ret
  exact ⟨rfl, HX.out⟩
theorem kstep_any (k n : Int) (s : ByteArray) (w0 w : World) (P B : Nat) (l r : Int) (t : ByteArray) (c g : Int) (b : Px.Bo) (hn : I64 n) (hs : s.size ≤ maxLen) (c0 : 0 ≤ c) (c1 : c ≤ 4223371679) (hT : TT w0) (hk : Px.KI b l r t c g) (h : KW w0 w P B l r t c g b) :
    Calls Tryz.prog 7 #[.pointer (some ⟨P, 0, none⟩), skV k n s] w fun e w' => e = .returned (.bool true) ∧ KStR w0 w w' P B l r t (stp l r k n s c g b) := by
  by_cases k1 : k = 1
  · subst k1; exact kstep_1 n s w0 w P B l r t c g b hn hs c0 c1 hT hk h
  by_cases k2 : k = 2
  · subst k2; exact kstep_2 n s w0 w P B l r t c g b hn hs c0 c1 hT hk h
  by_cases k3 : k = 3
  · subst k3; exact kstep_3 n s w0 w P B l r t c g b hn hs c0 c1 hT hk h
  by_cases k4 : k = 4
  · subst k4; exact kstep_4 n s w0 w P B l r t c g b hn hs c0 c1 hT hk h
  by_cases k5 : k = 5
  · subst k5; exact kstep_5 n s w0 w P B l r t c g b hn hs c0 c1 hT hk h
  by_cases k6 : k = 6
  · subst k6; exact kstep_6 n s w0 w P B l r t c g b hn hs c0 c1 hT hk h
  exact kstep_o k n s w0 w P B l r t c g b hn hs c0 c1 hT hk h k1 k2 k3 k4 k5 k6
end Go.Proofs.YtdajolpoiffimabGreatDoor

namespace Go.Proofs.YtdajolpoiffimabGreatDoor
open Go.ChangeShapes Go.WideShapes Go.ChangeAt Go.RowKit

namespace Kb
theorem cellsStep : Tryz.prog.cellsOf 26 = 3 := by kernel_rfl
theorem three {α : Type} {cs : Array α} (h : cs.size = 3) : ∃ a b c, cs = #[a, b, c] := by
  obtain ⟨l⟩ := cs
  match l, h with
  | [a, b, c], _ => exact ⟨a, b, c, rfl⟩
set_option maxRecDepth 10000 in
theorem open_step {H : Type} {enc : TypeId × Value → H} {w : World} {r : Reach} {b0 base : Nat} {spare : Nat → Bool} {held : Bool} {v : Value} {x : DataW H} {p : List MemPlace}
    (hv : Value.okWide Tryz.prog w r b0 26 v) (h : DataW.Trod enc Tryz.prog w base spare held 26 v x p) : ∃ (a b : Int) (s : ByteArray), v = skV a b s ∧ I64 b ∧ s.size ≤ maxLen := by
  obtain ⟨cs, rfl, hsz⟩ := okWide_struct Tryz.underlying26 hv
  obtain ⟨c0, c1, c2, rfl⟩ := three (hsz.trans cellsStep)
  obtain ⟨fuel, hf⟩ := h
  obtain ⟨xs, n, _, _, _, hlen, hfld⟩ := DataW.trod_struct Tryz.underlying26 hf
  have q : ∀ (c : Value) (y : DataW H × List MemPlace), DataW.trod enc Tryz.prog w base spare held n 3 [c] = some y → ∃ z : Int, c = .int .i64 z ∧ I64 z := by
    intro c y hy
    obtain ⟨z, e, _, e2⟩ := DataW.trod_int Tryz.underlying3 hy
    exact ⟨z, by simpa using e, bounds_i64 e2⟩
  obtain ⟨x0, e0⟩ := someAt hlen (i := 0) (by decide)
  obtain ⟨x1, e1⟩ := someAt hlen (i := 1) (by decide)
  obtain ⟨x2, e2⟩ := someAt hlen (i := 2) (by decide)
  have h0 := hfld 0 _ rfl
  have h1 := hfld 1 _ rfl
  have h2 := hfld 2 _ rfl
  simp only [Value.cells] at h0 h1 h2
  obtain ⟨a, rfl, ha⟩ := q c0 x0 (h0.trans e0)
  obtain ⟨b, rfl, hb⟩ := q c1 x1 (h1.trans e1)
  obtain ⟨z2, q2, _, q3⟩ := DataW.trod_string Tryz.underlying9 (h2.trans e2)
  have hs1 : Tryz.prog.cellsOf 9 = 1 := by kernel_rfl
  simp [hs1] at q2
  subst q2
  exact ⟨a, b, z2, rfl, hb, q3⟩
end Kb
end Go.Proofs.YtdajolpoiffimabGreatDoor
