/-
  CompM2, KAns, KCompW.
-/
import Derived.Test.YtdajolpoiffimabGreatDoorC1
import Derived.Test.YtdajolpoiffimabGreatDoorC10
import Derived.Test.YtdajolpoiffimabGreatDoorC11
import Derived.Test.YtdajolpoiffimabGreatDoorC13

namespace Go.Proofs.YtdajolpoiffimabGreatDoor
/-- A call's own answer: the box, a number (of a Tick), what is said, the code. -/
noncomputable def ans (k n : Int) (s : ByteArray) (c g : Int) (b : Px.Bo) : Px.Bo × Int × ByteArray × Int :=
  if k = 1 then ((Px.tickB b (c + 1 + pk n 1500)).1, (Px.tickB b (c + 1 + pk n 1500)).2.1, ByteArray.empty, (Px.tickB b (c + 1 + pk n 1500)).2.2)
  else if k = 2 then ((Px.startB b (1 + pk n (g + 1))).1, 0, (Px.startB b (1 + pk n (g + 1))).2.1, (Px.startB b (1 + pk n (g + 1))).2.2)
  else if k = 3 then ((Px.feedB b (1 + pk n (g + 1)) (fedS s)).1, 0, (Px.feedB b (1 + pk n (g + 1)) (fedS s)).2.1, (Px.feedB b (1 + pk n (g + 1)) (fedS s)).2.2)
  else if k = 4 then ((Px.cancelB b (1 + pk n (g + 1))).1, 0, ByteArray.empty, (Px.cancelB b (1 + pk n (g + 1))).2)
  else (b, 0, ByteArray.empty, 0)
theorem ans_comp {b : Px.Bo} {l r : Int} {t : ByteArray} {c g : Int} (h : Px.KI b l r t c g) (k n : Int) (s : ByteArray) (h13 : ¬ (ans k n s c g b).2.2.2 = 13) :
    (ans k n s c g (Px.compB b)).2 = (ans k n s c g b).2 ∧ (ans k n s c g (Px.compB b)).1.st = (ans k n s c g b).1.st := by
  unfold ans at h13 ⊢
  by_cases h1 : k = 1
  · simp only [if_pos h1] at h13 ⊢
    obtain ⟨e1, e2⟩ := Px.tick_comp h _ h13
    exact ⟨by rw [e1], e2⟩
  simp only [if_neg h1] at h13 ⊢
  by_cases h2 : k = 2
  · simp only [if_pos h2] at h13 ⊢
    obtain ⟨e1, e2⟩ := Px.start_comp h _ h13
    exact ⟨by rw [e1], e2⟩
  simp only [if_neg h2] at h13 ⊢
  by_cases h3 : k = 3
  · simp only [if_pos h3] at h13 ⊢
    obtain ⟨e1, e2⟩ := Px.feed_comp h _ _ h13
    exact ⟨by rw [e1], e2⟩
  simp only [if_neg h3] at h13 ⊢
  by_cases h4 : k = 4
  · simp only [if_pos h4] at h13 ⊢
    obtain ⟨e1, e2⟩ := Px.cancel_comp h _ h13
    exact ⟨by rw [e1], e2⟩
  rw [if_neg h4, if_neg h4]
  exact ⟨rfl, rfl⟩
theorem tick_13 {b : Px.Bo} {l r : Int} {t : ByteArray} {c g : Int} (h : Px.KI b l r t c g) (m : Int) (q : (Px.tickB b m).2.2 = 13) : (Px.tickB b m).1 = b ∧ r < (b.log.size : Int) + (12 + 9 * l) := by
  unfold Px.tickB at q ⊢
  by_cases h0 : (Px.clockP b.st m).2 = 0
  rotate_left
  · rw [if_pos h0] at q
    exfalso
    have q' : (Px.clockP b.st m).2 = 13 := q
    unfold Px.clockP at q'
    split at q'
    · exact absurd q' (by decide)
    · split at q'
      · exact absurd q' (by decide)
      · split at q'
        · exact absurd q' (by decide)
        · have q2 : (0 : Int) = 13 := q'
          exact absurd q2 (by decide)
  · have h0' : ¬ ¬ (Px.clockP b.st m).2 = 0 := by simpa using h0
    rw [if_neg h0'] at q ⊢
    by_cases hr : b.room < (b.log.size : Int) + (Px.tickQ b m).2.size
    · rw [if_pos hr]
      refine ⟨rfl, ?_⟩
      have hz := Px.tickQ_size h.ok h0
      have h1 := Px.late_le (Px.clockP b.st m).1
      rw [Px.runs_clock h0] at h1
      have h2 := h.run
      have h3 := h.room
      omega
    · rw [if_neg hr] at q
      have q2 : (0 : Int) = 13 := q
      exact absurd q2 (by decide)
theorem ans_room {b : Px.Bo} {l r : Int} {t : ByteArray} {c g : Int} (h : Px.KI b l r t c g) (hl : 1 ≤ l) (k n : Int) (s : ByteArray) (hs : (fedS s).size ≤ 40) (h13 : (ans k n s c g b).2.2.2 = 13) :
    (ans k n s c g b).1 = b ∧ r < (b.log.size : Int) + (12 + 9 * l + 9) := by
  unfold ans at h13 ⊢
  have hro := h.room
  by_cases h1 : k = 1
  · simp only [if_pos h1] at h13 ⊢
    obtain ⟨e1, e2⟩ := tick_13 h _ h13
    exact ⟨e1, by omega⟩
  simp only [if_neg h1] at h13 ⊢
  by_cases h2 : k = 2
  · simp only [if_pos h2] at h13 ⊢
    refine ⟨?_, ?_⟩
    · rcases Px.start_adv h.ok _ (Px.startP_ok h.ok _) with ⟨_, e, _⟩ | ⟨e, _⟩
      · exact e
      · rw [e] at h13; exact absurd h13 (by decide)
    · rcases Px.start_codes b (1 + pk n (g + 1)) with q0 | ⟨_, q0⟩ | ⟨_, q1⟩ <;> omega
  simp only [if_neg h2] at h13 ⊢
  by_cases h3 : k = 3
  · simp only [if_pos h3] at h13 ⊢
    refine ⟨?_, ?_⟩
    · rcases Px.feed_adv h.ok (1 + pk n (g + 1)) (fedS s) with ⟨_, e, _⟩ | ⟨e, _⟩
      · exact e
      · rw [e] at h13; exact absurd h13 (by decide)
    · rcases Px.feed_codes b (1 + pk n (g + 1)) (fedS s) hs with q0 | q0 | q0 | ⟨_, q1⟩ <;> omega
  simp only [if_neg h3] at h13 ⊢
  by_cases h4 : k = 4
  · simp only [if_pos h4] at h13 ⊢
    refine ⟨?_, ?_⟩
    · rcases Px.cancel_adv h.ok (1 + pk n (g + 1)) with ⟨_, e⟩ | ⟨e, _⟩
      · exact e
      · rw [e] at h13; exact absurd h13 (by decide)
    · rcases Px.cancel_codes b (1 + pk n (g + 1)) with q0 | q0 | ⟨_, q1⟩ <;> omega
  simp only [if_neg h4] at h13
  exact absurd h13 (by decide)
end Go.Proofs.YtdajolpoiffimabGreatDoor

namespace Go.Proofs.YtdajolpoiffimabGreatDoor
open Go.RowKit

/-- Two bytes, as a text. -/
theorem conv2 (W : World) (g : Nat) (h : isU8 (W.cell? ⟨g, 0, none⟩) = true) (h' : isU8 (W.cell? ⟨g, 1, none⟩) = true) : (convert 95 9 (.slice (some ⟨g, 0, none⟩) 2 2)).run Tryz.prog W = .ok (.string (strOfNums [cellInt (W.cell? ⟨g, 0, none⟩), cellInt (W.cell? ⟨g, 1, none⟩)])) W := by
  refine run_convert_bytes_arg W _ 5 Tryz.underlying95 Tryz.underlying5 g 0 2 2 [cellInt (W.cell? ⟨g, 0, none⟩), cellInt (W.cell? ⟨g, 1, none⟩)] rfl (fun i hi => ?_) _ Tryz.underlying9
  have q : ∀ u : Option Value, isU8 u = true → u = some (.int .u8 (cellInt u)) := by
    intro u hu
    unfold isU8 at hu
    split at hu
    · rfl
    · cases hu
  match i, hi with
  | 0, _ => exact q _ h
  | 1, _ => exact q _ h'
attribute [local go_sem] conv2 isU8_int cellInt_int
/-- What a Tick's answer is told as. -/
noncomputable def tw (n : Int) : ByteArray := strOfNums [n / 256, n % 256]
noncomputable def sayS (k n : Int) (x : ByteArray) : ByteArray := if k = 1 then tw n else x
def AnsR (w0 w w' : World) (P B : Nat) (l r : Int) (t : ByteArray) (c g : Int) (a : Px.Bo × Int × ByteArray × Int) (x : ByteArray) (e : Ending) : Prop := e = .returned (.tuple #[.string x, .int .i64 a.2.2.2]) ∧ KW w0 w' P B l r t c g a.1 ∧ Far2 w w' P B
set_option maxRecDepth 10000 in
set_option maxHeartbeats 4000000 in
theorem kans_2 (n : Int) (s : ByteArray) (w0 w : World) (P B : Nat) (l r : Int) (t : ByteArray) (c g : Int) (b : Px.Bo) (hn : I64 n) (hs : s.size ≤ maxLen) (_c0 : 0 ≤ c) (_c1 : c ≤ 4223371679) (hT : TT w0) (hk : Px.KI b l r t c g) (h : KW w0 w P B l r t c g b) :
    Calls Tryz.prog 16 #[.pointer (some ⟨P, 0, none⟩), skV 2 n s] w fun e w' => AnsR w0 w w' P B l r t c g (ans 2 n s c g b) (sayS 2 (ans 2 n s c g b).2.1 (ans 2 n s c g b).2.2.1) e := by
  have hb0 := below_alloc w (skO 2 n s)
  have ho := Cl.new w [.int .i64 2, .int .i64 n, .string s] 26
  have hW0 := h.later hb0
  have hne := h.ne
  have hBw : B < w.heap.size := h.b.typ.lt
  have HK : Hid (Px.KI b l r t c g) := hk
  have HT : Hid (TT w0) := hT
  have HN : Hid (I64 n) := hn
  have HSz : Hid (s.size ≤ maxLen) := hs
  have hg9 := kig hk
  have hll := kil hk
  clear h hk hT hn hs
  go_enter Tryz.func16, Tryz.ntmps16
  go_upto_region 1 with fail
  have ho' : Cl (w.alloc (skO 2 n s)) w.heap.size 26 [.int .i64 2, .int .i64 n, .string s] := ho
  clear ho
  have HF0 : Hid (Far2 w (w.alloc (skO 2 n s)) P B) := Far2.below hb0
  clear hb0
  generalize w.alloc (skO 2 n s) = W at *
  have HW : Hid (KW w0 W P B l r t c g b) := hW0
  have o0 : W.cell? ⟨w.heap.size, 0, none⟩ = some (.int .i64 2) := ho'.c 0 _ rfl
  have o1 : W.cell? ⟨w.heap.size, 1, none⟩ = some (.int .i64 n) := ho'.c 1 _ rfl
  have o2 : W.cell? ⟨w.heap.size, 2, none⟩ = some (.string s) := ho'.c 2 _ rfl
  have p0 : W.cell? ⟨P, 0, none⟩ = some (.pointer (some ⟨B, 0, none⟩)) := hW0.p.c 0 _ rfl
  have p4 : W.cell? ⟨P, 4, none⟩ = some (.int .i64 c) := hW0.p.c 4 _ rfl
  have hPW := hW0.p.ty.lt
  have hOW := ho'.ty.lt
  clear hW0 ho'
  obtain ⟨N, hN⟩ : ∃ N, 1 + pk n (g + 1) = N := ⟨_, rfl⟩
  have HNm : Hid (∀ wq : World, KW w0 wq P B l r t c g b → Calls Tryz.prog 26 #[.pointer (some ⟨P, 0, none⟩), .int .i64 n] wq fun e w' => e = .returned (.int .i64 N) ∧ w' = wq) := fun wq hq => by rw [← hN]; exact knumber_any n w0 wq P B l r t c g b HN.out hg9.1 hg9.2 hq
  have HWd : Hid (KW w0 W.drew P B l r t c g b) := HW.out.later (Below.refl _ _).drew
  have HnP : Hid (some P ≠ some B) := fun e => hne (by simpa using e)
  have HnO : Hid (some w.heap.size ≠ some B) := fun e => by simp at e; omega
  obtain ⟨y, er, hxr⟩ : ∃ y er, (Px.startB b N).2 = (y, er) := ⟨_, _, rfl⟩
  have HXR : Hid ((Px.startB b N).2 = (y, er)) := hxr
  have HA : Hid (ans 2 n s c g b = ((Px.startB b N).1, 0, y, er)) := by unfold Hid ans; rw [if_neg (by decide), if_pos rfl, hN, hxr]
  clear hN hxr
  go_wp2_with fail
  go_region_held3 (fun w' => w'.cell? ⟨P, 0, none⟩ = some (.pointer (some ⟨B, 0, none⟩)) ∧ w'.cell? ⟨w.heap.size, 1, none⟩ = some (.int .i64 n) )
      (first | exact ⟨hg6.cell p0 HnP.out, hg6.cell o1 HnO.out⟩ | exact ⟨p0, o1⟩)
      ((first
        | (go_at_call 26; refine (HNm.out _ HWd.out).mono ?_; rintro e w5 ⟨rfl, rfl⟩)
        | (go_at_call 25; refine (xstart2_any b B N w0 _ HK.out.ok hll.1 HT.out HWd.out.b y er HXR.out).mono ?_; rintro e w6 ⟨rfl, hK6, hg6⟩)))
  have HX : Hid (KW w0 w6 P B l r t c g (Px.startB b N).1 ∧ Far2 w w6 P B) := ⟨HWd.out.call hK6 hg6, HF0.out.trans ((Far2.below (Below.refl _ _).drew).trans (Far2.grow hg6))⟩
  clear hK6 hg6 o0 o1 o2 p0 p4 HNm HWd
  go_wp2_with fail
  go_ret2
  exact ⟨by rw [HA.out]; rfl, by rw [HA.out]; exact HX.out.1, HX.out.2⟩
set_option maxRecDepth 10000 in
set_option maxHeartbeats 4000000 in
theorem kans_3 (n : Int) (s : ByteArray) (w0 w : World) (P B : Nat) (l r : Int) (t : ByteArray) (c g : Int) (b : Px.Bo) (hn : I64 n) (hs : s.size ≤ maxLen) (_c0 : 0 ≤ c) (_c1 : c ≤ 4223371679) (hT : TT w0) (hk : Px.KI b l r t c g) (h : KW w0 w P B l r t c g b) :
    Calls Tryz.prog 16 #[.pointer (some ⟨P, 0, none⟩), skV 3 n s] w fun e w' => AnsR w0 w w' P B l r t c g (ans 3 n s c g b) (sayS 3 (ans 3 n s c g b).2.1 (ans 3 n s c g b).2.2.1) e := by
  have hb0 := below_alloc w (skO 3 n s)
  have ho := Cl.new w [.int .i64 3, .int .i64 n, .string s] 26
  have hW0 := h.later hb0
  have hne := h.ne
  have hBw : B < w.heap.size := h.b.typ.lt
  have HK : Hid (Px.KI b l r t c g) := hk
  have HT : Hid (TT w0) := hT
  have HN : Hid (I64 n) := hn
  have HSz : Hid (s.size ≤ maxLen) := hs
  have hg9 := kig hk
  have hll := kil hk
  clear h hk hT hn hs
  go_enter Tryz.func16, Tryz.ntmps16
  go_upto_region 1 with fail
  have ho' : Cl (w.alloc (skO 3 n s)) w.heap.size 26 [.int .i64 3, .int .i64 n, .string s] := ho
  clear ho
  have HF0 : Hid (Far2 w (w.alloc (skO 3 n s)) P B) := Far2.below hb0
  clear hb0
  generalize w.alloc (skO 3 n s) = W at *
  have HW : Hid (KW w0 W P B l r t c g b) := hW0
  have o0 : W.cell? ⟨w.heap.size, 0, none⟩ = some (.int .i64 3) := ho'.c 0 _ rfl
  have o1 : W.cell? ⟨w.heap.size, 1, none⟩ = some (.int .i64 n) := ho'.c 1 _ rfl
  have o2 : W.cell? ⟨w.heap.size, 2, none⟩ = some (.string s) := ho'.c 2 _ rfl
  have p0 : W.cell? ⟨P, 0, none⟩ = some (.pointer (some ⟨B, 0, none⟩)) := hW0.p.c 0 _ rfl
  have p4 : W.cell? ⟨P, 4, none⟩ = some (.int .i64 c) := hW0.p.c 4 _ rfl
  have hPW := hW0.p.ty.lt
  have hOW := ho'.ty.lt
  clear hW0 ho'
  obtain ⟨N, hN⟩ : ∃ N, 1 + pk n (g + 1) = N := ⟨_, rfl⟩
  have HNm : Hid (∀ wq : World, KW w0 wq P B l r t c g b → Calls Tryz.prog 26 #[.pointer (some ⟨P, 0, none⟩), .int .i64 n] wq fun e w' => e = .returned (.int .i64 N) ∧ w' = wq) := fun wq hq => by rw [← hN]; exact knumber_any n w0 wq P B l r t c g b HN.out hg9.1 hg9.2 hq
  have HWd : Hid (KW w0 W.drew P B l r t c g b) := HW.out.later (Below.refl _ _).drew
  have HnP : Hid (some P ≠ some B) := fun e => hne (by simpa using e)
  have HnO : Hid (some w.heap.size ≠ some B) := fun e => by simp at e; omega
  obtain ⟨y, er, hxr⟩ : ∃ y er, (Px.feedB b N (fedS s)).2 = (y, er) := ⟨_, _, rfl⟩
  have HXR : Hid ((Px.feedB b N (fedS s)).2 = (y, er)) := hxr
  have HA : Hid (ans 3 n s c g b = ((Px.feedB b N (fedS s)).1, 0, y, er)) := by unfold Hid ans; rw [if_neg (by decide), if_neg (by decide), if_pos rfl, hN, hxr]
  clear hN hxr
  go_wp2_with fail
  go_region_held3 (fun w' => w'.cell? ⟨P, 0, none⟩ = some (.pointer (some ⟨B, 0, none⟩)) ∧ w'.cell? ⟨w.heap.size, 1, none⟩ = some (.int .i64 n) ∧ w'.cell? ⟨w.heap.size, 2, none⟩ = some (.string s))
      (first | exact ⟨hg6.cell p0 HnP.out, hg6.cell o1 HnO.out, hg6.cell o2 HnO.out⟩ | exact ⟨p0, o1, o2⟩)
      ((first
        | (go_at_call 26; refine (HNm.out _ HWd.out).mono ?_; rintro e w5 ⟨rfl, rfl⟩)
        | (go_at_call 29; refine (kfed_any s _ HSz.out).mono ?_; rintro e w5 ⟨rfl, rfl⟩)
        | (go_at_call 28; refine (xfeed2_any b B N (fedS s) w0 _ HK.out.ok hll.1 HT.out HWd.out.b y er HXR.out).mono ?_; rintro e w6 ⟨rfl, hK6, hg6⟩)))
  have HX : Hid (KW w0 w6 P B l r t c g (Px.feedB b N (fedS s)).1 ∧ Far2 w w6 P B) := ⟨HWd.out.call hK6 hg6, HF0.out.trans ((Far2.below (Below.refl _ _).drew).trans (Far2.grow hg6))⟩
  clear hK6 hg6 o0 o1 o2 p0 p4 HNm HWd
  go_wp2_with fail
  go_ret2
  exact ⟨by rw [HA.out]; rfl, by rw [HA.out]; exact HX.out.1, HX.out.2⟩
set_option maxRecDepth 10000 in
set_option maxHeartbeats 4000000 in
theorem kans_4 (n : Int) (s : ByteArray) (w0 w : World) (P B : Nat) (l r : Int) (t : ByteArray) (c g : Int) (b : Px.Bo) (hn : I64 n) (hs : s.size ≤ maxLen) (_c0 : 0 ≤ c) (_c1 : c ≤ 4223371679) (hT : TT w0) (hk : Px.KI b l r t c g) (h : KW w0 w P B l r t c g b) :
    Calls Tryz.prog 16 #[.pointer (some ⟨P, 0, none⟩), skV 4 n s] w fun e w' => AnsR w0 w w' P B l r t c g (ans 4 n s c g b) (sayS 4 (ans 4 n s c g b).2.1 (ans 4 n s c g b).2.2.1) e := by
  have hb0 := below_alloc w (skO 4 n s)
  have ho := Cl.new w [.int .i64 4, .int .i64 n, .string s] 26
  have hW0 := h.later hb0
  have hne := h.ne
  have hBw : B < w.heap.size := h.b.typ.lt
  have HK : Hid (Px.KI b l r t c g) := hk
  have HT : Hid (TT w0) := hT
  have HN : Hid (I64 n) := hn
  have HSz : Hid (s.size ≤ maxLen) := hs
  have hg9 := kig hk
  have hll := kil hk
  clear h hk hT hn hs
  go_enter Tryz.func16, Tryz.ntmps16
  go_upto_region 1 with fail
  have ho' : Cl (w.alloc (skO 4 n s)) w.heap.size 26 [.int .i64 4, .int .i64 n, .string s] := ho
  clear ho
  have HF0 : Hid (Far2 w (w.alloc (skO 4 n s)) P B) := Far2.below hb0
  clear hb0
  generalize w.alloc (skO 4 n s) = W at *
  have HW : Hid (KW w0 W P B l r t c g b) := hW0
  have o0 : W.cell? ⟨w.heap.size, 0, none⟩ = some (.int .i64 4) := ho'.c 0 _ rfl
  have o1 : W.cell? ⟨w.heap.size, 1, none⟩ = some (.int .i64 n) := ho'.c 1 _ rfl
  have o2 : W.cell? ⟨w.heap.size, 2, none⟩ = some (.string s) := ho'.c 2 _ rfl
  have p0 : W.cell? ⟨P, 0, none⟩ = some (.pointer (some ⟨B, 0, none⟩)) := hW0.p.c 0 _ rfl
  have p4 : W.cell? ⟨P, 4, none⟩ = some (.int .i64 c) := hW0.p.c 4 _ rfl
  have hPW := hW0.p.ty.lt
  have hOW := ho'.ty.lt
  clear hW0 ho'
  obtain ⟨N, hN⟩ : ∃ N, 1 + pk n (g + 1) = N := ⟨_, rfl⟩
  have HNm : Hid (∀ wq : World, KW w0 wq P B l r t c g b → Calls Tryz.prog 26 #[.pointer (some ⟨P, 0, none⟩), .int .i64 n] wq fun e w' => e = .returned (.int .i64 N) ∧ w' = wq) := fun wq hq => by rw [← hN]; exact knumber_any n w0 wq P B l r t c g b HN.out hg9.1 hg9.2 hq
  have HWd : Hid (KW w0 W.drew P B l r t c g b) := HW.out.later (Below.refl _ _).drew
  have HnP : Hid (some P ≠ some B) := fun e => hne (by simpa using e)
  have HnO : Hid (some w.heap.size ≠ some B) := fun e => by simp at e; omega
  obtain ⟨er, hxr⟩ : ∃ er, (Px.cancelB b N).2 = er := ⟨_, rfl⟩
  have HXR : Hid ((Px.cancelB b N).2 = er) := hxr
  have HA : Hid (ans 4 n s c g b = ((Px.cancelB b N).1, 0, ByteArray.empty, er)) := by unfold Hid ans; rw [if_neg (by decide), if_neg (by decide), if_neg (by decide), if_pos rfl, hN, hxr]
  clear hN hxr
  go_wp2_with fail
  go_region_held3 (fun w' => w'.cell? ⟨P, 0, none⟩ = some (.pointer (some ⟨B, 0, none⟩)) ∧ w'.cell? ⟨w.heap.size, 1, none⟩ = some (.int .i64 n) )
      (first | exact ⟨hg6.cell p0 HnP.out, hg6.cell o1 HnO.out⟩ | exact ⟨p0, o1⟩)
      ((first
        | (go_at_call 26; refine (HNm.out _ HWd.out).mono ?_; rintro e w5 ⟨rfl, rfl⟩)
        | (go_at_call 30; refine (xcancel_any b B N w0 _ HK.out.ok hll.1 HWd.out.b).mono ?_; rw [HXR.out]; rintro e w6 ⟨rfl, hK6, hg6⟩)))
  have HX : Hid (KW w0 w6 P B l r t c g (Px.cancelB b N).1 ∧ Far2 w w6 P B) := ⟨HWd.out.call hK6 hg6, HF0.out.trans ((Far2.below (Below.refl _ _).drew).trans (Far2.grow hg6))⟩
  clear hK6 hg6 o0 o1 o2 p0 p4 HNm HWd
  go_wp2_with fail
  go_ret2
  exact ⟨by rw [HA.out]; rfl, by rw [HA.out]; exact HX.out.1, HX.out.2⟩
set_option maxRecDepth 10000 in
set_option maxHeartbeats 4000000 in
theorem kans_1 (n : Int) (s : ByteArray) (w0 w : World) (P B : Nat) (l r : Int) (t : ByteArray) (c g : Int) (b : Px.Bo) (hn : I64 n) (hs : s.size ≤ maxLen) (c0 : 0 ≤ c) (c1 : c ≤ 4223371679) (hT : TT w0) (hk : Px.KI b l r t c g) (h : KW w0 w P B l r t c g b) :
    Calls Tryz.prog 16 #[.pointer (some ⟨P, 0, none⟩), skV 1 n s] w fun e w' => AnsR w0 w w' P B l r t c g (ans 1 n s c g b) (sayS 1 (ans 1 n s c g b).2.1 (ans 1 n s c g b).2.2.1) e := by
  have hb0 := below_alloc w (skO 1 n s)
  have ho := Cl.new w [.int .i64 1, .int .i64 n, .string s] 26
  have hW0 := h.later hb0
  have hne := h.ne
  have hBw : B < w.heap.size := h.b.typ.lt
  have HK : Hid (Px.KI b l r t c g) := hk
  have HT : Hid (TT w0) := hT
  have HN : Hid (I64 n) := hn
  have HSz : Hid (s.size ≤ maxLen) := hs
  have hg9 := kig hk
  have hll := kil hk
  clear h hk hT hn hs
  go_enter Tryz.func16, Tryz.ntmps16
  go_upto_region 1 with fail
  have ho' : Cl (w.alloc (skO 1 n s)) w.heap.size 26 [.int .i64 1, .int .i64 n, .string s] := ho
  clear ho
  have HF0 : Hid (Far2 w (w.alloc (skO 1 n s)) P B) := Far2.below hb0
  clear hb0
  generalize w.alloc (skO 1 n s) = W at *
  have HW : Hid (KW w0 W P B l r t c g b) := hW0
  have o0 : W.cell? ⟨w.heap.size, 0, none⟩ = some (.int .i64 1) := ho'.c 0 _ rfl
  have o1 : W.cell? ⟨w.heap.size, 1, none⟩ = some (.int .i64 n) := ho'.c 1 _ rfl
  have o2 : W.cell? ⟨w.heap.size, 2, none⟩ = some (.string s) := ho'.c 2 _ rfl
  have p0 : W.cell? ⟨P, 0, none⟩ = some (.pointer (some ⟨B, 0, none⟩)) := hW0.p.c 0 _ rfl
  have p4 : W.cell? ⟨P, 4, none⟩ = some (.int .i64 c) := hW0.p.c 4 _ rfl
  have hPW := hW0.p.ty.lt
  have hOW := ho'.ty.lt
  clear hW0 ho'
  have hp := pk_bd n 1500 (by decide)
  have C0' : ∀ wq : World, Calls Tryz.prog 13 #[.int .i64 n, .int .i64 1500] wq fun e w' => e = .returned (.int .i64 (pk n 1500)) ∧ w' = wq := fun wq => pick_at n 1500 _ wq rfl HN.out.1 HN.out.2 (by decide) (by decide)
  have HA0 : Hid (ans 1 n s c g b = ((Px.tickB b (c + 1 + pk n 1500)).1, (Px.tickB b (c + 1 + pk n 1500)).2.1, ByteArray.empty, (Px.tickB b (c + 1 + pk n 1500)).2.2)) := by unfold Hid ans; rw [if_pos rfl]
  generalize pk n 1500 = p at *
  obtain ⟨p1, p2⟩ := hp
  have C0 : Hid (∀ wq : World, Calls Tryz.prog 13 #[.int .i64 n, .int .i64 1500] wq fun e w' => e = .returned (.int .i64 p) ∧ w' = wq) := C0'
  have wr1 : IntKind.i64.wrap (c + 1) = c + 1 := by rw [IntKind.wrap_i64]; omega
  have wr2 : IntKind.i64.wrap (c + 1 + p) = c + 1 + p := by rw [IntKind.wrap_i64]; omega
  have HWd : Hid (KW w0 W.drew P B l r t c g b) := HW.out.later (Below.refl _ _).drew
  clear C0'
  go_wp2_with fail
  go_region_held3 (fun w' => ∀ b o, b < W.heap.size → w'.cell? ⟨b, o, none⟩ = W.cell? ⟨b, o, none⟩)
    ((intro b' o' h1; rfl))
    ((go_at_call 13; refine (C0.out _).mono ?_; rintro e w5 ⟨rfl, rfl⟩))
  rename ∀ (b o : Nat), b < W.heap.size → _ = W.cell? _ => hSold
  clear hSold p0 p4 o0 o1 o2 C0
  try rw [wr1]
  try rw [wr2]
  clear wr1 wr2
  have HF1 : Hid (Far2 w W.drew P B) := HF0.out.trans (Far2.below (Below.refl _ _).drew)
  have hP' : P < W.drew.heap.size := hPW
  generalize hwg : W.drew = wg at *
  clear hwg hPW hOW HW HF0
  obtain ⟨tm, hto⟩ : ∃ tm, c + 1 + p = tm := ⟨_, rfl⟩
  rw [hto] at HA0 ⊢
  have HTn : Hid (0 ≤ (Px.tickB b tm).2.1 ∧ (Px.tickB b tm).2.1 ≤ 6000) := by
    unfold Hid
    by_cases h0 : (Px.tickB b tm).2.2 = 0
    · have h1 := (HK.out.tick tm h0).1
      have h2 := HK.out.many c0 (show c < tm by omega)
      rw [h1]; omega
    · have h1 : (Px.tickB b tm).2.1 = 0 := by
        rcases Px.tick_adv HK.out.ok tm with ⟨_, _, e⟩ | ⟨e, _⟩
        · exact e
        · exact absurd e h0
      rw [h1]; omega
  have c00 : wg.cell? ⟨P, 0, none⟩ = some (.pointer (some ⟨B, 0, none⟩)) := HWd.out.p.c 0 _ rfl
  clear hto p1 p2
  go_wp2_with fail
  refine (ktick_any b B tm w0 _ HK.out.ok hll.1 HT.out HWd.out.b).mono ?_
  obtain ⟨b2, q, er, hq⟩ : ∃ b2 q er, Px.tickB b tm = (b2, q, er) := ⟨_, _, _, rfl⟩
  rw [hq] at HA0 HTn ⊢
  rintro e w6 ⟨rfl, hK6, hg6⟩
  have HX : Hid (KW w0 w6 P B l r t c g b2 ∧ Far2 w w6 P B) := ⟨HWd.out.call hK6 hg6, HF1.out.trans (Far2.grow hg6)⟩
  have hq1 : 0 ≤ q := HTn.out.1
  have hq2 : q ≤ 6000 := HTn.out.2
  clear hq hK6 hg6 c00 HWd HTn
  go_wp2_with fail
  go_ret2
  exact ⟨by rw [HA0.out]; rfl, by rw [HA0.out]; exact HX.out.1.later (below_alloc _ _), HX.out.2.trans (Far2.below (below_alloc _ _))⟩
set_option maxRecDepth 10000 in
set_option maxHeartbeats 4000000 in
theorem kans_0 (k n : Int) (s : ByteArray) (w0 w : World) (P B : Nat) (l r : Int) (t : ByteArray) (c g : Int) (b : Px.Bo) (h1 : ¬ k = 1) (h2 : ¬ k = 2) (h3 : ¬ k = 3) (h4 : ¬ k = 4) (hn : I64 n) (hs : s.size ≤ maxLen) (_c0 : 0 ≤ c) (_c1 : c ≤ 4223371679) (hT : TT w0) (hk : Px.KI b l r t c g) (h : KW w0 w P B l r t c g b) :
    Calls Tryz.prog 16 #[.pointer (some ⟨P, 0, none⟩), skV k n s] w fun e w' => AnsR w0 w w' P B l r t c g (ans k n s c g b) (sayS k (ans k n s c g b).2.1 (ans k n s c g b).2.2.1) e := by
  have hb0 := below_alloc w (skO k n s)
  have ho := Cl.new w [.int .i64 k, .int .i64 n, .string s] 26
  have hW0 := h.later hb0
  have hne := h.ne
  have hBw : B < w.heap.size := h.b.typ.lt
  have HK : Hid (Px.KI b l r t c g) := hk
  have HT : Hid (TT w0) := hT
  have HN : Hid (I64 n) := hn
  have HSz : Hid (s.size ≤ maxLen) := hs
  have hg9 := kig hk
  have hll := kil hk
  clear h hk hT hn hs
  go_enter Tryz.func16, Tryz.ntmps16
  go_upto_region 1 with fail
  have ho' : Cl (w.alloc (skO k n s)) w.heap.size 26 [.int .i64 k, .int .i64 n, .string s] := ho
  clear ho
  have HF0 : Hid (Far2 w (w.alloc (skO k n s)) P B) := Far2.below hb0
  clear hb0
  generalize w.alloc (skO k n s) = W at *
  have HW : Hid (KW w0 W P B l r t c g b) := hW0
  have o0 : W.cell? ⟨w.heap.size, 0, none⟩ = some (.int .i64 k) := ho'.c 0 _ rfl
  have o1 : W.cell? ⟨w.heap.size, 1, none⟩ = some (.int .i64 n) := ho'.c 1 _ rfl
  have o2 : W.cell? ⟨w.heap.size, 2, none⟩ = some (.string s) := ho'.c 2 _ rfl
  have p0 : W.cell? ⟨P, 0, none⟩ = some (.pointer (some ⟨B, 0, none⟩)) := hW0.p.c 0 _ rfl
  have p4 : W.cell? ⟨P, 4, none⟩ = some (.int .i64 c) := hW0.p.c 4 _ rfl
  have hPW := hW0.p.ty.lt
  have hOW := ho'.ty.lt
  clear hW0 ho'
  have HA : Hid (ans k n s c g b = (b, 0, ByteArray.empty, 0)) := by unfold Hid ans; rw [if_neg h1, if_neg h2, if_neg h3, if_neg h4]
  have HSy : Hid (sayS k 0 ByteArray.empty = ByteArray.empty) := by unfold Hid sayS; rw [if_neg h1]
  go_wp2_with fail
  go_ret2
  exact ⟨by rw [HA.out]; show _ = Ending.returned (Value.tuple #[.string (sayS k 0 ByteArray.empty), .int .i64 0]); rw [HSy.out]; rfl, by rw [HA.out]; exact HW.out, HF0.out⟩
theorem kans_any (k n : Int) (s : ByteArray) (w0 w : World) (P B : Nat) (l r : Int) (t : ByteArray) (c g : Int) (b : Px.Bo) (hn : I64 n) (hs : s.size ≤ maxLen) (c0 : 0 ≤ c) (c1 : c ≤ 4223371679) (hT : TT w0) (hk : Px.KI b l r t c g) (h : KW w0 w P B l r t c g b) :
    Calls Tryz.prog 16 #[.pointer (some ⟨P, 0, none⟩), skV k n s] w fun e w' => AnsR w0 w w' P B l r t c g (ans k n s c g b) (sayS k (ans k n s c g b).2.1 (ans k n s c g b).2.2.1) e := by
  by_cases h1 : k = 1
  · subst h1; exact kans_1 n s w0 w P B l r t c g b hn hs c0 c1 hT hk h
  by_cases h2 : k = 2
  · subst h2; exact kans_2 n s w0 w P B l r t c g b hn hs c0 c1 hT hk h
  by_cases h3 : k = 3
  · subst h3; exact kans_3 n s w0 w P B l r t c g b hn hs c0 c1 hT hk h
  by_cases h4 : k = 4
  · subst h4; exact kans_4 n s w0 w P B l r t c g b hn hs c0 c1 hT hk h
  exact kans_0 k n s w0 w P B l r t c g b h1 h2 h3 h4 hn hs c0 c1 hT hk h
end Go.Proofs.YtdajolpoiffimabGreatDoor

namespace Go.Proofs.YtdajolpoiffimabGreatDoor
open Go.RowKit

theorem ans_ok {b : Px.Bo} {l r : Int} {t : ByteArray} {c g : Int} (h : Px.KI b l r t c g) (k n : Int) (s : ByteArray) : Px.Ok (ans k n s c g b).1.st := by
  unfold ans
  by_cases h1 : k = 1
  · rw [if_pos h1]
    show Px.Ok (Px.tickB b (c + 1 + pk n 1500)).1.st
    by_cases h0 : (Px.tickB b (c + 1 + pk n 1500)).2.2 = 0
    · exact (h.tick _ h0).2.ok
    · rcases Px.tick_adv h.ok (c + 1 + pk n 1500) with ⟨_, e, _⟩ | ⟨e, _⟩
      · rw [e]; exact h.ok
      · exact absurd e h0
  rw [if_neg h1]
  by_cases h2 : k = 2
  · rw [if_pos h2]; exact (h.start _).ok
  rw [if_neg h2]
  by_cases h3 : k = 3
  · rw [if_pos h3]; exact (h.feed _ _).ok
  rw [if_neg h3]
  by_cases h4 : k = 4
  · rw [if_pos h4]; exact (h.cancel _).ok
  rw [if_neg h4]; exact h.ok
/-- Two worlds in memory. -/
structure Cw (W w : World) (P1 B1 P2 B2 : Nat) (l r : Int) (t : ByteArray) (c g : Int) (b1 b2 : Px.Bo) : Prop where
  k1 : KW W w P1 B1 l r t c g b1
  k2 : KW W w P2 B2 l r t c g b2
  p : P1 ≠ P2
  b : B1 ≠ B2
theorem Cw.later {W w w' : World} {P1 B1 P2 B2 : Nat} {l r : Int} {t : ByteArray} {c g : Int} {b1 b2 : Px.Bo} (h : Cw W w P1 B1 P2 B2 l r t c g b1 b2) (hb : Below w.heap.size w w') : Cw W w' P1 B1 P2 B2 l r t c g b1 b2 := ⟨h.k1.later hb, h.k2.later hb, h.p, h.b⟩
theorem Cw.one {W w w' : World} {P1 B1 P2 B2 : Nat} {l r : Int} {t : ByteArray} {c g : Int} {b1 b2 b' : Px.Bo} (h : Cw W w P1 B1 P2 B2 l r t c g b1 b2) (hk : KW W w' P1 B1 l r t c g b') (hf : Far2 w w' P1 B1) : Cw W w' P1 B1 P2 B2 l r t c g b' b2 :=
  ⟨hk, h.k2.far2 hf h.k1.p.ty h.k1.b.typ (Ne.symm h.p) (Ne.symm h.b) hk.bl, h.p, h.b⟩
theorem Cw.two {W w w' : World} {P1 B1 P2 B2 : Nat} {l r : Int} {t : ByteArray} {c g : Int} {b1 b2 b' : Px.Bo} (h : Cw W w P1 B1 P2 B2 l r t c g b1 b2) (hk : KW W w' P2 B2 l r t c g b') (hf : Far2 w w' P2 B2) : Cw W w' P1 B1 P2 B2 l r t c g b1 b' :=
  ⟨h.k1.far2 hf h.k2.p.ty h.k2.b.typ h.p h.b hk.bl, hk, h.p, h.b⟩
/-- A step of either. -/
theorem Cw.step {W w w5 : World} {P1 B1 P2 B2 : Nat} {l r : Int} {t : ByteArray} {c g : Int} {b : Px.Bo} {x : Int × Int × Px.Bo} (h : Cw W w P1 B1 P2 B2 l r t c g b b) (h5 : KStR W w w5 P1 B1 l r t x) : ∃ B1', KW W w5 P1 B1' l r t x.1 x.2.1 x.2.2 ∧ KW W w5 P2 B2 l r t c g b ∧ B1' ≠ B2 := by
  obtain ⟨B1', k5, f5, hB⟩ := h5
  refine ⟨B1', k5, h.k2.far2 f5 h.k1.p.ty h.k1.b.typ (Ne.symm h.p) (Ne.symm h.b) k5.bl, ?_⟩
  rcases hB with rfl | hB
  · exact h.b
  · have := h.k2.b.typ.lt; omega
theorem Cw.step2 {W w5 w6 : World} {P1 B1 P2 B2 : Nat} {l r : Int} {t : ByteArray} {c g : Int} {b : Px.Bo} {x : Int × Int × Px.Bo} (hp : P1 ≠ P2) (hB : B1 ≠ B2) (k1 : KW W w5 P1 B1 l r t x.1 x.2.1 x.2.2) (k2 : KW W w5 P2 B2 l r t c g b) (h6 : KStR W w5 w6 P2 B2 l r t x) : ∃ B2', Cw W w6 P1 B1 P2 B2' l r t x.1 x.2.1 x.2.2 x.2.2 := by
  obtain ⟨B2', k6, f6, hB'⟩ := h6
  refine ⟨B2', k1.far2 f6 k2.p.ty k2.b.typ hp hB k6.bl, k6, hp, ?_⟩
  rcases hB' with rfl | hB'
  · exact hB
  · have := k1.b.typ.lt; omega
def CompR (W w : World) (P1 P2 : Nat) (l r : Int) (t : ByteArray) : Prop := ∃ B1 B2 c g b, 0 ≤ c ∧ c ≤ 4223371679 ∧ Px.KI b l r t c g ∧ Cw W w P1 B1 P2 B2 l r t c g b b
theorem sn_len {b : Px.Bo} {l r : Int} {t : ByteArray} {c g : Int} (h : Px.KI b l r t c g) : (Kp.snOf b.st).slots.length ≤ 10000 ∧ (Kp.snOf b.st).ends.length ≤ 10000 := by
  have h1 : b.st.slots.length ≤ 8 := h.ok.len
  have h2 : b.st.ends.length ≤ 6 := h.ok.st.en
  have e : (Kp.snOf b.st).slots.length = b.st.slots.length := by simp [Kp.snOf]
  refine ⟨by omega, ?_⟩
  show b.st.ends.length ≤ 10000
  omega
theorem ok_len {s : Px.St} (h : Px.Ok s) : (Kp.snOf s).slots.length ≤ 10000 ∧ (Kp.snOf s).ends.length ≤ 10000 := by
  have h1 : s.slots.length ≤ 8 := h.len
  have h2 : s.ends.length ≤ 6 := h.st.en
  have e : (Kp.snOf s).slots.length = s.slots.length := by simp [Kp.snOf]
  refine ⟨by omega, ?_⟩
  show s.ends.length ≤ 10000
  omega
set_option maxRecDepth 10000 in
set_option maxHeartbeats 16000000 in
theorem kCompacts_any (a0 a1 a2 a3 : Int) (L : List (Int × Int × ByteArray)) (kv : Value) (kd n : Int) (s : ByteArray) (w : World) (h0 : I64 a0) (h1 : I64 a1) (h2 : I64 a2) (h3 : I64 a3) (hT : TT w) (hK : KScrAt w kv L) (hKl : L.length ≤ 9223372036854775807) (hKb : ∀ s ∈ L, I64 s.2.1 ∧ s.2.2.size ≤ maxLen) (hn : I64 n) (hsz : s.size ≤ maxLen) :
    Calls Tryz.prog 4 #[suV a0 a1 a2 a3, kv, skV kd n s] w fun e w' => e = .returned (.bool true) ∧ Below w.heap.size w w' := by
  obtain ⟨kad, kcap, rfl, hkc⟩ := hK.form
  have hb0 := (below_alloc w (suO a0 a1 a2 a3)).alloc (by simp) (skO kd n s)
  have hs := (Cl.new w [.int .i64 a0, .int .i64 a1, .int .i64 a2, .int .i64 a3] 23).later (below_alloc _ (skO kd n s))
  have ho := Cl.new (w.alloc (suO a0 a1 a2 a3)) [.int .i64 kd, .int .i64 n, .string s] 26
  have hsz1 : (w.alloc (suO a0 a1 a2 a3)).heap.size = w.heap.size + 1 := by simp
  rw [hsz1] at ho
  clear hsz1
  have HKb : Hid (∀ s ∈ L, I64 s.2.1 ∧ s.2.2.size ≤ maxLen) := hKb
  have HI : Hid (I64 a0 ∧ I64 a1 ∧ I64 a2 ∧ I64 a3) := ⟨h0, h1, h2, h3⟩
  have HN : Hid (I64 n ∧ s.size ≤ maxLen) := ⟨hn, hsz⟩
  have HT : Hid (TT ((w.alloc (suO a0 a1 a2 a3)).alloc (skO kd n s))) := hT.later hb0
  have HK : Hid (KScrAt ((w.alloc (suO a0 a1 a2 a3)).alloc (skO kd n s)) (.slice kad L.length kcap) L) := hK.later hb0
  clear h0 h1 h2 h3 hT hK hKb hn hsz
  go_enter Tryz.func4, Tryz.ntmps4
  go_upto_region 1 with fail
  have hs' : Cl ((w.alloc (suO a0 a1 a2 a3)).alloc (skO kd n s)) w.heap.size 23 [.int .i64 a0, .int .i64 a1, .int .i64 a2, .int .i64 a3] := hs
  have ho' : Cl ((w.alloc (suO a0 a1 a2 a3)).alloc (skO kd n s)) (w.heap.size + 1) 26 [.int .i64 kd, .int .i64 n, .string s] := ho
  clear hs ho
  generalize ((w.alloc (suO a0 a1 a2 a3)).alloc (skO kd n s)) = W at *
  have HB0 : Hid (Below w.heap.size w W) := hb0
  have HO : Hid (Cl W (w.heap.size + 1) 26 [.int .i64 kd, .int .i64 n, .string s]) := ho'
  have HSu : Hid (Cl W w.heap.size 23 [.int .i64 a0, .int .i64 a1, .int .i64 a2, .int .i64 a3]) := hs'
  have s0 : W.cell? ⟨w.heap.size, 0, none⟩ = some (.int .i64 a0) := hs'.c 0 _ rfl
  have s1 : W.cell? ⟨w.heap.size, 1, none⟩ = some (.int .i64 a1) := hs'.c 1 _ rfl
  have s2 : W.cell? ⟨w.heap.size, 2, none⟩ = some (.int .i64 a2) := hs'.c 2 _ rfl
  have s3 : W.cell? ⟨w.heap.size, 3, none⟩ = some (.int .i64 a3) := hs'.c 3 _ rfl
  have hqs := hs'.ty.lt
  clear hs' ho' hb0
  go_wp2_with fail
  refine (kbegun_any a0 a1 a2 a3 W HI.out.1 HI.out.2.1 HI.out.2.2.1 HI.out.2.2.2 HT.out).mono ?_
  rintro e w1 ⟨P1, B1, rfl, hW1⟩
  have hS1 := HSu.out.later hW1.bl
  have HW1 : Hid (KW W w1 P1 B1 (sL a0) (sR a1) (sT a2) (sC a3) (begG (sL a0) (sR a1) (sT a2) (sC a3)) (begB (sL a0) (sR a1) (sT a2) (sC a3))) := hW1
  clear s0 s1 s2 s3 hqs hW1
  have s0 : w1.cell? ⟨w.heap.size, 0, none⟩ = some (.int .i64 a0) := hS1.c 0 _ rfl
  have s1 : w1.cell? ⟨w.heap.size, 1, none⟩ = some (.int .i64 a1) := hS1.c 1 _ rfl
  have s2 : w1.cell? ⟨w.heap.size, 2, none⟩ = some (.int .i64 a2) := hS1.c 2 _ rfl
  have s3 : w1.cell? ⟨w.heap.size, 3, none⟩ = some (.int .i64 a3) := hS1.c 3 _ rfl
  have hqs := hS1.ty.lt
  clear hS1
  go_wp2_with fail
  refine (kbegun_any a0 a1 a2 a3 w1 HI.out.1 HI.out.2.1 HI.out.2.2.1 HI.out.2.2.2 (HT.out.later HW1.out.bl)).mono ?_
  rintro e w2 ⟨P2, B2, rfl, hW2⟩
  have hM := s_may a0 a1
  have hm := (sT_mem a2).1
  have hc := pk_bd a3 4223371680 (by decide)
  have hc' : 0 ≤ sC a3 ∧ sC a3 ≤ 4223371679 := by unfold sC; omega
  generalize sL a0 = l at *
  generalize sR a1 = r at *
  generalize sT a2 = t at *
  generalize sC a3 = c at *
  have hki := (beg_ki hM hm hc'.1 hc'.2).2.2.2
  generalize begG l r t c = g at *
  generalize begB l r t c = b at *
  have HS : Hid (CompR W w2 P1 P2 l r t) := by
    have h1 := HW1.out
    have q1 := h1.p.ty.lt
    have q2 := h1.b.typ.lt
    have q3 := hW2.lo
    have q4 := hW2.b.lo
    have q5 := h1.bl
    obtain ⟨sl, en, hp⟩ := hW2.b.pb
    exact ⟨B1, B2, c, g, b, hc'.1, hc'.2, hki, h1.later hW2.bl, ⟨hW2.p, ⟨Nat.le_trans q5.size q4, q5.trans (hW2.bl.mono q5.size), sl, en, hp⟩, Nat.le_trans q5.size q3⟩, by omega, by omega⟩
  clear hM hm hc hc' hki hW2 HW1 s0 s1 s2 s3 hqs
  go_wp2_with fail
  go_loopw [11] (fun i wr => ∃ (k : Nat), k ≤ L.length ∧ i = .int .i64 k ∧ CompR W wr P1 P2 l r t) (fun i _ => L.length - (intOf i).toNat)
  case atStart => exact ⟨0, Nat.zero_le _, rfl, HS.out⟩
  case round =>
    clear HS
    obtain ⟨k, hk, rfl, B1, B2, c, g, b, c0, c1, hKI, hC⟩ := hrel
    have HKI : Hid (Px.KI b l r t c g) := hKI
    have HC : Hid (Cw W wr P1 B1 P2 B2 l r t c g b b) := hC
    clear hKI hC
    by_cases hlt : k < L.length
    · obtain ⟨kb, koff, kcap2, hkv, d0, d1, d2⟩ := kscr_at (HK.out.later HC.out.k1.bl) hlt
      cases hkv
      have HK2 : Hid (∀ w', Below W.heap.size W w' → w'.cell? ⟨kb, koff + k * 3, none⟩ = some (.int .i64 L[k].1) ∧ w'.cell? ⟨kb, koff + k * 3 + 1, none⟩ = some (.int .i64 L[k].2.1) ∧ w'.cell? ⟨kb, koff + k * 3 + 2, none⟩ = some (.string L[k].2.2)) := fun w' hb => by
        obtain ⟨kb', koff', kc', hv', e0, e1, e2⟩ := kscr_at (HK.out.later hb) hlt
        cases hv'; exact ⟨e0, e1, e2⟩
      have b1 : (0 : Int) ≤ (k : Int) := by omega
      have b2 : (k : Int) < (L.length : Int) := by omega
      have HSt := HKb.out L[k] (List.getElem_mem hlt)
      generalize L[k] = st at *
      obtain ⟨ke, m, u⟩ := st
      have HSt' : Hid (I64 m ∧ u.size ≤ maxLen) := HSt
      have d0' : wr.cell? ⟨kb, koff + k * 3, none⟩ = some (.int .i64 ke) := d0
      have d1' : wr.cell? ⟨kb, koff + k * 3 + 1, none⟩ = some (.int .i64 m) := d1
      have d2' : wr.cell? ⟨kb, koff + k * 3 + 2, none⟩ = some (.string u) := d2
      clear d0 d1 d2 HSt
      go_wp2_with fail
      refine (kstep_any ke m u W wr P1 B1 l r t c g b HSt'.out.1 HSt'.out.2 c0 c1 HT.out HKI.out HC.out.k1).mono ?_
      rintro e w5 ⟨rfl, h5⟩
      obtain ⟨B1', hk5, hk5', hB5⟩ := HC.out.step h5
      have HK5 : Hid (KW W w5 P1 B1' l r t (stp l r ke m u c g b).1 (stp l r ke m u c g b).2.1 (stp l r ke m u c g b).2.2 ∧ KW W w5 P2 B2 l r t c g b ∧ B1' ≠ B2 ∧ P1 ≠ P2) := ⟨hk5, hk5', hB5, HC.out.p⟩
      obtain ⟨e0, e1, e2⟩ := HK2.out w5 hk5.bl
      have e0' : w5.cell? ⟨kb, koff + k * 3, none⟩ = some (.int .i64 ke) := e0
      have e1' : w5.cell? ⟨kb, koff + k * 3 + 1, none⟩ = some (.int .i64 m) := e1
      have e2' : w5.cell? ⟨kb, koff + k * 3 + 2, none⟩ = some (.string u) := e2
      clear d0' d1' d2' h5 hk5 hk5' hB5 e0 e1 e2
      go_wp2_with fail
      refine (kstep_any ke m u W w5 P2 B2 l r t c g b HSt'.out.1 HSt'.out.2 c0 c1 HT.out HKI.out HK5.out.2.1).mono ?_
      rintro e w6 ⟨rfl, h6⟩
      have HR : Hid (CompR W w6 P1 P2 l r t) := by
        obtain ⟨B2', hc6⟩ := Cw.step2 HK5.out.2.2.2 HK5.out.2.2.1 HK5.out.1 HK5.out.2.1 h6
        have hk6 := KI.step HKI.out ke m u c0 c1
        exact ⟨B1', B2', _, _, _, hk6.2.1, hk6.2.2, hk6.1, hc6⟩
      clear e0' e1' e2' h6 HK5
      go_wp2_with fail
      go_roundw
      case rel => exact ⟨k + 1, by omega, by go_num, HR.out⟩
      case measure => simp [intOf]; omega
    · have b2' : ¬ (k : Int) < (L.length : Int) := by omega
      have p0 : wr.cell? ⟨P1, 0, none⟩ = some (.pointer (some ⟨B1, 0, none⟩)) := HC.out.k1.p.c 0 _ rfl
      have hpl := HC.out.k1.p.ty.lt
      have HOr : Hid (Cl wr (w.heap.size + 1) 26 [.int .i64 kd, .int .i64 n, .string s]) := HO.out.later HC.out.k1.bl
      have HLx : Hid ((Kp.snOf b.st).slots.length ≤ 10000 ∧ (Kp.snOf b.st).ends.length ≤ 10000) := sn_len HKI.out
      have HSb : Hid (Kp.snOf (Px.compB b).st = Kp.snOf b.st) := rfl
      go_wp2_with fail
      refine (ksnap_any b B1 wr HKI.out.ok HC.out.k1.b.pb).mono ?_
      generalize Kp.snOf b.st = x at *
      rintro e w2 ⟨⟨sl, en, rfl, hA⟩, hb2⟩
      obtain ⟨ad, cap, rfl, hcap⟩ := hA.sl.form
      obtain ⟨ad2, cap2, rfl, hcap2⟩ := hA.en.form
      have hb3 := hb2.trans ((below_alloc w2 (snO x (.slice ad x.slots.length cap) (.slice ad2 x.ends.length cap2))).mono hb2.size)
      have hI := Cl.new w2 (snC x (.slice ad x.slots.length cap) (.slice ad2 x.ends.length cap2)) 40
      have hA3 := hA.later (below_alloc w2 (snO x (.slice ad x.slots.length cap) (.slice ad2 x.ends.length cap2)))
      clear hA hb2 p0 hpl b2'
      go_upto_region 13 with fail
      have hI' : Cl (w2.alloc (snO x (.slice ad x.slots.length cap) (.slice ad2 x.ends.length cap2))) w2.heap.size 40 (snC x (.slice ad x.slots.length cap) (.slice ad2 x.ends.length cap2)) := hI
      clear hI
      generalize w2.alloc (snO x (.slice ad x.slots.length cap) (.slice ad2 x.ends.length cap2)) = W3 at *
      generalize w2.heap.size = qa at *
      have HC3 : Hid (Cw W W3 P1 B1 P2 B2 l r t c g b b) := HC.out.later hb3
      have HO3 : Hid (Cl W3 (w.heap.size + 1) 26 [.int .i64 kd, .int .i64 n, .string s]) := HOr.out.later hb3
      have HA3 : Hid (SnAt W3 x (.slice ad x.slots.length cap) (.slice ad2 x.ends.length cap2) ∧ Cl W3 qa 40 (snC x (.slice ad x.slots.length cap) (.slice ad2 x.ends.length cap2))) := ⟨hA3, hI'⟩
      have p0 : W3.cell? ⟨P1, 0, none⟩ = some (.pointer (some ⟨B1, 0, none⟩)) := HC3.out.k1.p.c 0 _ rfl
      have hpl := HC3.out.k1.p.ty.lt
      clear hb3 hI' hA3 HC HOr
      go_wp2_with fail
      refine (kcompact_any b B1 W W3 HKI.out.may HC3.out.k1.b).mono ?_
      have HKc : Hid (Px.KI (Px.compB b) l r t c g) := HKI.out.comp
      have HCi : Hid (¬ (ans kd n s c g b).2.2.2 = 13 → (ans kd n s c g (Px.compB b)).2 = (ans kd n s c g b).2 ∧ (ans kd n s c g (Px.compB b)).1.st = (ans kd n s c g b).1.st) := ans_comp HKI.out kd n s
      have h18 : 18 ≤ (Px.compB b).log.size := Px.whole_ge _
      generalize Px.compB b = bc at *
      rintro e w4 ⟨rfl, hK4, hg4⟩
      have hF4 : Far2 W3 w4 P1 B1 := Far2.grow hg4
      have HC4 : Hid (Cw W w4 P1 B1 P2 B2 l r t c g bc b) := HC3.out.one (HC3.out.k1.call hK4 hg4) hF4
      have HO4 : Hid (Cl w4 (w.heap.size + 1) 26 [.int .i64 kd, .int .i64 n, .string s]) := HO3.out.far2 hF4 (typed_ne HO3.out.ty HC3.out.k1.p.ty (by decide)) (typed_ne HO3.out.ty HC3.out.k1.b.typ (by decide))
      have HA4 : Hid (SnAt w4 x (.slice ad x.slots.length cap) (.slice ad2 x.ends.length cap2) ∧ Cl w4 qa 40 (snC x (.slice ad x.slots.length cap) (.slice ad2 x.ends.length cap2))) := ⟨HA3.out.1.far2 hF4 HC3.out.k1.p.ty HC3.out.k1.b.typ, HA3.out.2.far2 hF4 (typed_ne HA3.out.2.ty HC3.out.k1.p.ty (by decide)) (typed_ne HA3.out.2.ty HC3.out.k1.b.typ (by decide))⟩
      clear hK4 hg4 hF4 HC3 HO3 HA3 p0 hpl
      have p0 : w4.cell? ⟨P1, 0, none⟩ = some (.pointer (some ⟨B1, 0, none⟩)) := HC4.out.k1.p.c 0 _ rfl
      have hpl := HC4.out.k1.p.ty.lt
      go_wp2_with fail
      refine (klog_any bc B1 W _ HC4.out.k1.b).mono ?_
      rintro e w5 ⟨rfl, h2⟩
      have h3 := h2.symm
      subst h3
      clear h2
      go_wp2_with fail
      refine (ksnap_any bc B1 w4 HKc.out.ok HC4.out.k1.b.pb).mono ?_
      rw [HSb.out]
      rintro e w2 ⟨⟨sl, en, rfl, hA⟩, hb2⟩
      obtain ⟨bd, dap, rfl, hdap⟩ := hA.sl.form
      obtain ⟨bd2, dap2, rfl, hdap2⟩ := hA.en.form
      have hb3 := hb2.trans ((below_alloc w2 (snO x (.slice bd x.slots.length dap) (.slice bd2 x.ends.length dap2))).mono hb2.size)
      have hI := Cl.new w2 (snC x (.slice bd x.slots.length dap) (.slice bd2 x.ends.length dap2)) 40
      have hA3 := hA.later (below_alloc w2 (snO x (.slice bd x.slots.length dap) (.slice bd2 x.ends.length dap2)))
      clear hA hb2 p0 hpl
      go_upto_region 16 with fail
      have hI' : Cl (w2.alloc (snO x (.slice bd x.slots.length dap) (.slice bd2 x.ends.length dap2))) w2.heap.size 40 (snC x (.slice bd x.slots.length dap) (.slice bd2 x.ends.length dap2)) := hI
      clear hI
      generalize w2.alloc (snO x (.slice bd x.slots.length dap) (.slice bd2 x.ends.length dap2)) = W6 at *
      generalize w2.heap.size = qz at *
      have HC6 : Hid (Cw W W6 P1 B1 P2 B2 l r t c g bc b) := HC4.out.later hb3
      have HO6 : Hid (Cl W6 (w.heap.size + 1) 26 [.int .i64 kd, .int .i64 n, .string s]) := HO4.out.later hb3
      have HA6 : Hid (SnAt W6 x (.slice ad x.slots.length cap) (.slice ad2 x.ends.length cap2)) := HA4.out.1.later hb3
      have HZ6 : Hid (SnAt W6 x (.slice bd x.slots.length dap) (.slice bd2 x.ends.length dap2)) := hA3
      have hca := HA4.out.2.later hb3
      have u0 := (hca).c 0 _ rfl
      have u1 := (hca).c 1 _ rfl
      have u2 := (hca).c 2 _ rfl
      have u3 := (hca).c 3 _ rfl
      have u4 := (hca).c 4 _ rfl
      have u5 := (hca).c 5 _ rfl
      have u6 := (hca).c 6 _ rfl
      have hul := (hca).ty.lt
      have v0 := (hI').c 0 _ rfl
      have v1 := (hI').c 1 _ rfl
      have v2 := (hI').c 2 _ rfl
      have v3 := (hI').c 3 _ rfl
      have v4 := (hI').c 4 _ rfl
      have v5 := (hI').c 5 _ rfl
      have v6 := (hI').c 6 _ rfl
      have hvl := (hI').ty.lt
      have t1 : ¬ (bc.log.size : Int) < 18 := by omega
      clear hb3 hI' hA3 HC4 HO4 HA4 hca h18
      go_wp2_with fail
      refine (ksame_any x _ _ _ _ W6 HLx.out.1 HLx.out.2 HA6.out HZ6.out).mono ?_
      rintro e w7 ⟨rfl, hb7⟩
      have HC7 : Hid (Cw W w7 P1 B1 P2 B2 l r t c g bc b) := HC6.out.later hb7
      have HO7 : Hid (Cl w7 (w.heap.size + 1) 26 [.int .i64 kd, .int .i64 n, .string s]) := HO6.out.later hb7
      have o0 := HO7.out.c 0 _ rfl
      have o1 := HO7.out.c 1 _ rfl
      have o2 := HO7.out.c 2 _ rfl
      have hol := HO7.out.ty.lt
      clear hb7 HC6 HO6 HA6 HZ6 u0 u1 u2 u3 u4 u5 u6 hul v0 v1 v2 v3 v4 v5 v6 hvl t1
      have HOk1 : Hid (Px.Ok (ans kd n s c g bc).1.st) := ans_ok HKc.out kd n s
      have HOk2 : Hid (Px.Ok (ans kd n s c g b).1.st) := ans_ok HKI.out kd n s
      have HRm : Hid ((ans kd n s c g b).2.2.2 = 13 → (ans kd n s c g b).1 = b ∧ r < (b.log.size : Int) + (12 + 9 * l + 9)) := ans_room HKI.out (kil HKI.out).2.1 kd n s (fedS_le s)
      have hll := kil HKI.out
      go_wp2_with fail
      refine (kans_any kd n s W w7 P1 B1 l r t c g bc HN.out.1 HN.out.2 c0 c1 HT.out HKc.out HC7.out.k1).mono ?_
      rintro e w8 ⟨rfl, hk8, hf8⟩
      have HC8 : Hid (Cw W w8 P1 B1 P2 B2 l r t c g (ans kd n s c g bc).1 b) := HC7.out.one hk8 hf8
      have HO8 : Hid (Cl w8 (w.heap.size + 1) 26 [.int .i64 kd, .int .i64 n, .string s]) := HO7.out.far2 hf8 (typed_ne HO7.out.ty HC7.out.k1.p.ty (by decide)) (typed_ne HO7.out.ty HC7.out.k1.b.typ (by decide))
      clear hk8 hf8 o0 o1 o2 hol HC7 HO7
      have o0 := HO8.out.c 0 _ rfl
      have o1 := HO8.out.c 1 _ rfl
      have o2 := HO8.out.c 2 _ rfl
      have hol := HO8.out.ty.lt
      go_wp2_with fail
      refine (kans_any kd n s W w8 P2 B2 l r t c g b HN.out.1 HN.out.2 c0 c1 HT.out HKI.out HC8.out.k2).mono ?_
      rintro e w9 ⟨rfl, hk9, hf9⟩
      have HC9 : Hid (Cw W w9 P1 B1 P2 B2 l r t c g (ans kd n s c g bc).1 (ans kd n s c g b).1) := HC8.out.two hk9 hf9
      clear hk9 hf9 o0 o1 o2 hol HC8 HO8
      generalize hA1 : ans kd n s c g bc = z1 at *
      generalize hA2 : ans kd n s c g b = z2 at *
      clear hA1 hA2
      obtain ⟨d1, q1, y1, e1⟩ := z1
      obtain ⟨d2, q2, y2, e2⟩ := z2
      have HC10 : Hid (Cw W w9 P1 B1 P2 B2 l r t c g d1 d2) := HC9.out
      have HOk3 : Hid (Px.Ok d1.st ∧ Px.Ok d2.st) := ⟨HOk1.out, HOk2.out⟩
      clear HC9 HOk1 HOk2
      by_cases h13 : e2 = 13
      · subst h13
        obtain ⟨rfl, hr13⟩ := HRm.out rfl
        have hl1 := hll.2.1
        have hl2 := hll.2.2.1
        have wr1 : IntKind.i64.wrap (9 * l) = 9 * l := by rw [IntKind.wrap_i64]; omega
        have wr2 : IntKind.i64.wrap (12 + 9 * l) = 12 + 9 * l := by rw [IntKind.wrap_i64]; omega
        have wr3 : IntKind.i64.wrap (12 + 9 * l + 9) = 12 + 9 * l + 9 := by rw [IntKind.wrap_i64]; omega
        have p1 : w9.cell? ⟨P2, 1, none⟩ = some (.int .i64 l) := HC10.out.k2.p.c 1 _ rfl
        have hpl := HC10.out.k2.p.ty.lt
        have HR13 : Hid (decide (r < (d2.log.size : Int) + (12 + 9 * l + 9)) = true) := decide_eq_true hr13
        have HBe : Hid (Below w.heap.size w w9) := HB0.out.trans (HC10.out.k1.bl.mono HB0.out.size)
        clear hr13
        go_wp2_with fail
        refine (kfull_any (12 + 9 * l + 9) W w9 P2 B2 l r t c g d2 (by omega) (by omega) hll.1 HC10.out.k2).mono ?_
        rw [HR13.out]
        rintro e w10 ⟨rfl, h2⟩
        have h3 := h2.symm
        subst h3
        clear h2
        go_wp2_with fail
        go_ret
        exact ⟨rfl, HBe.out⟩
      · obtain ⟨he, hst⟩ := HCi.out h13
        have he' : (q1, y1, e1) = (q2, y2, e2) := he
        simp only [Prod.mk.injEq] at he'
        obtain ⟨rfl, rfl, rfl⟩ := he'
        have HSt : Hid (Kp.snOf d1.st = Kp.snOf d2.st) := by
          have hst' : d1.st = d2.st := hst
          unfold Hid; rw [hst']
        have HLy : Hid ((Kp.snOf d2.st).slots.length ≤ 10000 ∧ (Kp.snOf d2.st).ends.length ≤ 10000) := ok_len HOk3.out.2
        clear he hst
        have p0 : w9.cell? ⟨P1, 0, none⟩ = some (.pointer (some ⟨B1, 0, none⟩)) := HC10.out.k1.p.c 0 _ rfl
        have hpl := HC10.out.k1.p.ty.lt
        go_wp2_with fail
        refine (ksnap_any d1 B1 w9 HOk3.out.1 HC10.out.k1.b.pb).mono ?_
        rw [HSt.out]
        have HSd : Hid (∀ B w, (∃ sl en, PB w B d2 sl en) → Calls Tryz.prog 9 #[.pointer (some ⟨B, 0, none⟩)] w fun e w' => (∃ sl en, e = .returned (.tuple #[snV (Kp.snOf d2.st) sl en, .bool true]) ∧ SnAt w' (Kp.snOf d2.st) sl en) ∧ Below w.heap.size w w') := fun B w h => ksnap_any d2 B w HOk3.out.2 h
        generalize Kp.snOf d2.st = y at *
        rintro e w2 ⟨⟨sl, en, rfl, hA⟩, hb2⟩
        obtain ⟨ad7, cap7, rfl, _⟩ := hA.sl.form
        obtain ⟨ae7, cae7, rfl, _⟩ := hA.en.form
        have hb3 := hb2.trans ((below_alloc w2 (snO y (.slice ad7 y.slots.length cap7) (.slice ae7 y.ends.length cae7))).mono hb2.size)
        have hI := Cl.new w2 (snC y (.slice ad7 y.slots.length cap7) (.slice ae7 y.ends.length cae7)) 40
        have hA3 := hA.later (below_alloc w2 (snO y (.slice ad7 y.slots.length cap7) (.slice ae7 y.ends.length cae7)))
        clear hA hb2 p0 hpl
        go_upto_region 24 with fail
        have hI' : Cl (w2.alloc (snO y (.slice ad7 y.slots.length cap7) (.slice ae7 y.ends.length cae7))) w2.heap.size 40 (snC y (.slice ad7 y.slots.length cap7) (.slice ae7 y.ends.length cae7)) := hI
        clear hI
        generalize w2.alloc (snO y (.slice ad7 y.slots.length cap7) (.slice ae7 y.ends.length cae7)) = W10 at *
        generalize w2.heap.size = qx at *
        have HC11 : Hid (Cw W W10 P1 B1 P2 B2 l r t c g d1 d2) := HC10.out.later hb3
        have HX10 : Hid (SnAt W10 y (.slice ad7 y.slots.length cap7) (.slice ae7 y.ends.length cae7) ∧ Cl W10 qx 40 (snC y (.slice ad7 y.slots.length cap7) (.slice ae7 y.ends.length cae7))) := ⟨hA3, hI'⟩
        have p0 : W10.cell? ⟨P2, 0, none⟩ = some (.pointer (some ⟨B2, 0, none⟩)) := HC11.out.k2.p.c 0 _ rfl
        have hpl := HC11.out.k2.p.ty.lt
        clear hb3 hI' hA3 HC10
        go_wp2_with fail
        refine (HSd.out B2 W10 HC11.out.k2.b.pb).mono ?_
        rintro e w2 ⟨⟨sl2, en2, rfl, hA⟩, hb2⟩
        obtain ⟨ad9, cap9, rfl, _⟩ := hA.sl.form
        obtain ⟨ae9, cae9, rfl, _⟩ := hA.en.form
        have hb3 := hb2.trans ((below_alloc w2 (snO y (.slice ad9 y.slots.length cap9) (.slice ae9 y.ends.length cae9))).mono hb2.size)
        have hI := Cl.new w2 (snC y (.slice ad9 y.slots.length cap9) (.slice ae9 y.ends.length cae9)) 40
        have hA3 := hA.later (below_alloc w2 (snO y (.slice ad9 y.slots.length cap9) (.slice ae9 y.ends.length cae9)))
        clear hA hb2 p0 hpl
        go_upto_region 25 with fail
        have hI' : Cl (w2.alloc (snO y (.slice ad9 y.slots.length cap9) (.slice ae9 y.ends.length cae9))) w2.heap.size 40 (snC y (.slice ad9 y.slots.length cap9) (.slice ae9 y.ends.length cae9)) := hI
        clear hI
        generalize w2.alloc (snO y (.slice ad9 y.slots.length cap9) (.slice ae9 y.ends.length cae9)) = W12 at *
        generalize w2.heap.size = qy at *
        have HC12 : Hid (Cw W W12 P1 B1 P2 B2 l r t c g d1 d2) := HC11.out.later hb3
        have HX12 : Hid (SnAt W12 y (.slice ad7 y.slots.length cap7) (.slice ae7 y.ends.length cae7)) := HX10.out.1.later hb3
        have HY12 : Hid (SnAt W12 y (.slice ad9 y.slots.length cap9) (.slice ae9 y.ends.length cae9)) := hA3
        have hcx := HX10.out.2.later hb3
        have u0 := (hcx).c 0 _ rfl
        have u1 := (hcx).c 1 _ rfl
        have u2 := (hcx).c 2 _ rfl
        have u3 := (hcx).c 3 _ rfl
        have u4 := (hcx).c 4 _ rfl
        have u5 := (hcx).c 5 _ rfl
        have u6 := (hcx).c 6 _ rfl
        have hul := (hcx).ty.lt
        have v0 := (hI').c 0 _ rfl
        have v1 := (hI').c 1 _ rfl
        have v2 := (hI').c 2 _ rfl
        have v3 := (hI').c 3 _ rfl
        have v4 := (hI').c 4 _ rfl
        have v5 := (hI').c 5 _ rfl
        have v6 := (hI').c 6 _ rfl
        have hvl := (hI').ty.lt
        have HBe : Hid (Below w.heap.size w W12) := HB0.out.trans (HC12.out.k1.bl.mono HB0.out.size)
        clear hb3 hI' hA3 HX10 hcx HC11
        go_wp2_with fail
        refine (ksame_any y _ _ _ _ W12 HLy.out.1 HLy.out.2 HX12.out HY12.out).mono ?_
        rintro e w13 ⟨rfl, hb13⟩
        have HBf : Hid (Below w.heap.size w w13) := HBe.out.trans (hb13.mono HBe.out.size)
        clear hb13 u0 u1 u2 u3 u4 u5 u6 hul v0 v1 v2 v3 v4 v5 v6 hvl
        go_wp2_with fail
        go_ret
        exact ⟨rfl, HBf.out⟩
end Go.Proofs.YtdajolpoiffimabGreatDoor
