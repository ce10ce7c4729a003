/-
  RefLog, RefFrames, RefBox, RefDo, RefTold, RefAdd, RefHush, RefLoad, RefTick, RefAsk, RefSteps, RefStart, RefStart2.
-/
import Derived.Deep.RegionHeld3
import Derived.Deep.RegionWith
import Derived.Deep.DrawnRows
import Derived.Laws.BytesArg
import Derived.Deep.CutRange
import Derived.Deep.RegionLaw
import Derived.Test.YtdajolpoiffimaaGreatDoorL1
import Derived.Test.YtdajolpoiffimaaGreatDoorL4

namespace Go.Proofs.YtdajolpoiffimaaGreatDoor
open Go.RowKit

attribute [local go_sem] conv1 isU8_int cellInt_int
attribute [local go_sem] strOfNums_one Bx.be_size
set_option maxHeartbeats 1000000 in
theorem bytes_any (k : Nat) : ∀ (n : Int) (w : World), 0 ≤ n → n ≤ 9223372036854775807 → k ≤ 10 →
    Calls Tryz.prog 108 #[.int .i64 n, .int .i64 k] w fun e w' => e = .returned (.string (Bx.be n k)) ∧ Below w.heap.size w w' := by
  induction k with
  | zero =>
    intro n w h1 h2 _
    go_enter Tryz.func108, Tryz.ntmps108
    go_wp2_with fail
    go_ret
    exact ⟨rfl, Below.refl _ _⟩
  | succ k ih =>
    intro n w h1 h2 hk
    have IH : Hid (∀ (a b : Int) (w : World), a = n / 256 → b = k → Calls Tryz.prog 108 #[.int .i64 a, .int .i64 b] w fun e w' => e = .returned (.string (Bx.be (n / 256) k)) ∧ Below w.heap.size w w') := fun a b w ea eb => by subst ea; subst eb; exact ih (n / 256) w (by omega) (by omega) (by omega)
    clear ih
    have q0 : IntKind.i64.wrap (n.tdiv 256) = n / 256 := by rw [Int.tdiv_eq_ediv_of_nonneg h1, IntKind.wrap_i64]; omega
    have q1 : IntKind.u8.wrap (n.tmod 256) = n % 256 := by rw [Int.tmod_eq_emod_of_nonneg h1, IntKind.wrap_u8]; omega
    have q2 : IntKind.i64.wrap (k : Int) = k := by rw [IntKind.wrap_i64]; omega
    go_enter Tryz.func108, Tryz.ntmps108
    go_wp2_with fail
    have q3 : ¬ 9223372036854775807 < k + 1 := by omega
    go_region_with ((go_at_call 108; refine (IH.out _ _ _ (by first | exact q0 | rfl) (by first | exact q2 | rfl)).mono ?_; rintro e w2 ⟨rfl, hb2⟩; obtain ⟨hc2, hf2⟩ := bcell hb2))
    all_goals (go_wp2_with fail; go_ret)
    · exact ⟨ret_str (b1_be n k), ((Below.refl _ _).drew.trans hb2).alloc (by have := hb2.size; exact this) _⟩
    · exact ⟨ret_str (b1_be n k), ((below_alloc _ _).drew).trans (hb2.mono (by simp))⟩
    · exact ⟨ret_str (b1_be n k), ((below_alloc _ _).drew).trans (hb2.mono (by simp))⟩
theorem bytes_at (a b n : Int) (k : Nat) (w : World) (ha : a = n) (hb : b = k) (h1 : 0 ≤ n) (h2 : n ≤ 9223372036854775807) (hk : k ≤ 10) :
    Calls Tryz.prog 108 #[.int .i64 a, .int .i64 b] w fun e w' => e = .returned (.string (Bx.be n k)) ∧ Below w.heap.size w w' := by
  subst ha; subst hb; exact bytes_any k a w h1 h2 hk
set_option maxHeartbeats 1000000 in
theorem frame_any (s : ByteArray) (w : World) (hs : s.size ≤ 100000) :
    Calls Tryz.prog 59 #[.string s] w fun e w' => e = .returned (.string (Bx.frame s)) ∧ Below w.heap.size w w' := by
  have B := sumR_bd s
  have q1 : ¬ 9223372036854775807 < 2 + s.size := by omega
  have q2 : ¬ 9223372036854775807 < 2 + s.size + 4 := by omega
  have HB : Hid (Bx.be (s.size : Int) 2 ++ s ++ Bx.be (Crc.sumR s) 4 = Bx.frame s) := rfl
  go_enter Tryz.func59, Tryz.ntmps59
  go_wp2_with fail
  refine (bytes_at _ _ (s.size : Int) 2 _ rfl rfl (by omega) (by omega) (by decide)).mono ?_
  rintro e w1 ⟨rfl, b1⟩
  go_wp2_with fail
  refine (rsum_any s _ (by unfold maxLen; omega)).mono ?_
  rintro e w2 ⟨rfl, rfl⟩
  go_wp2_with fail
  refine (bytes_at _ _ (Crc.sumR s) 4 _ rfl rfl (by omega) (by omega) (by decide)).mono ?_
  rintro e w3 ⟨rfl, b3⟩
  go_wp2_with fail
  go_ret
  exact ⟨ret_str HB.out, b1.trans (b3.mono b1.size)⟩

/-- A change, as a value. -/
abbrev chV (c : Bx.Ch) : Value := .agg #[.int .u8 c.kind, .string c.tab, .int .i64 c.n]
set_option maxHeartbeats 1000000 in
theorem body_any (c : Bx.Ch) (w : World) (hk : 0 ≤ c.kind) (hk2 : c.kind ≤ 255) (hn : 0 ≤ c.n) (hn2 : c.n ≤ 9223372036854775807) (hs : c.tab.size ≤ 100000) :
    Calls Tryz.prog 169 #[chV c] w fun e w' => e = .returned (.string (Bx.body c)) ∧ Below w.heap.size w w' := by
  obtain ⟨k, t, n⟩ := c
  dsimp only at *
  have q0 : k % 256 = k := by omega
  have K : strOfNums [k] = Bx.b1 k := by unfold strOfNums Bx.b1; rw [q0]; rfl
  have HB : Hid (Bx.body ⟨k, t, n⟩ = strOfNums [k] ++ (if k = 84 then t else if k = 67 then Bx.be n 5 else Bx.be n 2)) := by rw [K]; rfl
  clear K
  have y1 : ¬ 9223372036854775807 < 1 + t.size := by omega
  cases e1 : (k == 84)
  · have n1 : ¬ k = 84 := by simpa using e1
    rw [if_neg n1] at HB
    cases e2 : (k == 67)
    · have n2 : ¬ k = 67 := by simpa using e2
      rw [if_neg n2] at HB
      clear n1 n2
      go_enter Tryz.func169, Tryz.ntmps169
      go_wp2_with fail
      refine (bytes_at _ _ n 2 _ rfl rfl (by omega) (by omega) (by decide)).mono ?_
      rintro e w1 ⟨rfl, b1⟩
      go_wp2_with fail
      go_ret
      exact ⟨ret_str HB.out.symm, (((below_alloc _ _).alloc (by simp) _).trans (b1.mono (by simp; omega)))⟩
    · have n2 : k = 67 := by simpa using e2
      rw [if_pos n2] at HB
      clear n1 n2
      go_enter Tryz.func169, Tryz.ntmps169
      go_wp2_with fail
      refine (bytes_at _ _ n 5 _ rfl rfl (by omega) (by omega) (by decide)).mono ?_
      rintro e w1 ⟨rfl, b1⟩
      go_wp2_with fail
      go_ret
      exact ⟨ret_str HB.out.symm, (((below_alloc _ _).alloc (by simp) _).trans (b1.mono (by simp; omega)))⟩
  · have n1 : k = 84 := by simpa using e1
    rw [if_pos n1] at HB
    clear n1
    go_enter Tryz.func169, Tryz.ntmps169
    go_wp2_with fail
    go_ret
    exact ⟨ret_str HB.out.symm, (below_alloc _ _).alloc (by simp) _⟩
end Go.Proofs.YtdajolpoiffimaaGreatDoor

namespace Go.Proofs.YtdajolpoiffimaaGreatDoor
open Go.RowKit

/-- A change's cells. -/
def chC (c : Bx.Ch) : List Value := [.int .u8 c.kind, .string c.tab, .int .i64 c.n]
theorem chC_len (c : Bx.Ch) : (chC c).length = 3 := rfl
/-- A change that may be laid down. -/
structure ChOk (c : Bx.Ch) : Prop where
  k1 : 0 ≤ c.kind
  k2 : c.kind ≤ 255
  n1 : 0 ≤ c.n
  n2 : c.n ≤ 9223372036854775807
  t : c.tab.size ≤ 300
theorem frames_take (L : List Bx.Ch) (k : Nat) (h : k < L.length) : Bx.frames (L.take (k + 1)) = Bx.frames (L.take k) ++ Bx.frame (Bx.body L[k]) := by
  rw [List.take_succ_eq_append_getElem h, Bx.frames_snoc]
theorem frames_sz (L : List Bx.Ch) (h : ∀ c ∈ L, c.tab.size ≤ 300) (k : Nat) (hk : k ≤ L.length) : (Bx.frames (L.take k)).size ≤ k * 400 := by
  induction k with
  | zero => simp [Bx.frames]
  | succ k ih =>
    rw [frames_take L k hk, ByteArray.size_append, Bx.frame_size]
    have := Bx.body_size L[k]
    have := h L[k] (List.getElem_mem _)
    have := ih (by omega)
    omega

set_option maxHeartbeats 1000000 in
theorem frames_any (L : List Bx.Ch) (v : Value) (w : World) (hL : L.length ≤ 100) (hO : ∀ c ∈ L, ChOk c) (hR : RowAt w v L.length (L.flatMap chC)) :
    Calls Tryz.prog 133 #[v] w fun e w' => e = .returned (.string (Bx.frames L)) ∧ Below w.heap.size w w' := by
  obtain ⟨ad, cap, rfl, hcap⟩ := hR.form
  have HR : Hid (RowAt w (.slice ad L.length cap) L.length (L.flatMap chC)) := hR
  have HO : Hid (∀ c ∈ L, ChOk c) := hO
  clear hR hO
  go_enter Tryz.func133, Tryz.ntmps133
  go_wp2_with fail
  go_loopw [3, 4] (fun x i wr => ∃ k : Nat, k ≤ L.length ∧ i = .int .i64 k ∧ x = .string (Bx.frames (L.take k)) ∧ Below w.heap.size w wr) (fun _ i _ => L.length - (intOf i).toNat)
  case atStart => exact ⟨0, Nat.zero_le _, rfl, rfl, Below.refl _ _⟩
  case round =>
    obtain ⟨k, hk, rfl, rfl, hb⟩ := hrel
    have hz : (Bx.frames (L.take k)).size ≤ k * 400 := frames_sz L (fun c h => (HO.out c h).t) k hk
    by_cases hlt : k < L.length
    · obtain ⟨b, off, cap', hv, _, hc⟩ := (HR.out.later hb).some' (by omega)
      cases hv
      have c0 : wr.cell? ⟨b, off + k * 3, none⟩ = some (.int .u8 L[k].kind) := RowAt.cell chC_len hc k hlt 0 (by decide)
      have c1 : wr.cell? ⟨b, off + k * 3 + 1, none⟩ = some (.string L[k].tab) := RowAt.cell chC_len hc k hlt 1 (by decide)
      have c2 : wr.cell? ⟨b, off + k * 3 + 2, none⟩ = some (.int .i64 L[k].n) := RowAt.cell chC_len hc k hlt 2 (by decide)
      have O : Hid (ChOk L[k]) := HO.out _ (List.getElem_mem _)
      have HF : Hid (Bx.frames (L.take k) ++ Bx.frame (Bx.body L[k]) = Bx.frames (L.take (k + 1))) := (frames_take L k hlt).symm
      have hbs := Bx.body_size L[k]
      have hts := O.out.t
      clear hc
      generalize hx : L[k] = x at *
      generalize Bx.frames (L.take k) = s at *
      have b1 : (0 : Int) ≤ (k : Int) := by omega
      have b2 : (k : Int) < (L.length : Int) := by omega
      have y1 : ¬ 9223372036854775807 < s.size + (Bx.frame (Bx.body x)).size := by rw [Bx.frame_size]; omega
      go_wp2_with fail
      refine (body_any x _ O.out.k1 O.out.k2 O.out.n1 O.out.n2 (by omega)).mono ?_
      rintro e w1 ⟨rfl, hb1⟩
      go_wp2_with fail
      refine (frame_any _ _ (by omega)).mono ?_
      rintro e w2 ⟨rfl, hb2⟩
      go_wp2_with fail
      go_roundw
      case rel => exact ⟨k + 1, by omega, by go_num, by rw [HF.out], hb.trans ((hb1.trans (hb2.mono hb1.size)).mono hb.size)⟩
      case measure => simp [intOf]; omega
    · obtain rfl : k = L.length := by omega
      go_wp2_with fail
      go_ret
      exact ⟨ret_str (by rw [List.take_length]), hb⟩
end Go.Proofs.YtdajolpoiffimaaGreatDoor

namespace Go.Proofs.YtdajolpoiffimaaGreatDoor
open Go.RowKit

def tkC (x : Bx.Tk) : List Value := [.int .i64 x.num, .int .i64 x.at', .int .i64 x.since, .string x.heard]
theorem tkC_len (x : Bx.Tk) : (tkC x).length = 4 := rfl
abbrev bxO (b : Bx.Bo) (sl en tk : Value) : Obj := .cells #[.int .i64 b.limit, .int .i64 b.room, .string b.now.tab, .int .i64 b.now.clock, .int .i64 b.now.next, sl, en, .string b.text, tk] 115
/-- A box lies in a block. -/
structure BoxIn (w : World) (B : Nat) (b : Bx.Bo) (sl en tk : Value) : Prop where
  c0 : w.cell? ⟨B, 0, none⟩ = some (.int .i64 b.limit)
  c1 : w.cell? ⟨B, 1, none⟩ = some (.int .i64 b.room)
  c2 : w.cell? ⟨B, 2, none⟩ = some (.string b.now.tab)
  c3 : w.cell? ⟨B, 3, none⟩ = some (.int .i64 b.now.clock)
  c4 : w.cell? ⟨B, 4, none⟩ = some (.int .i64 b.now.next)
  c5 : w.cell? ⟨B, 5, none⟩ = some sl
  c6 : w.cell? ⟨B, 6, none⟩ = some en
  c7 : w.cell? ⟨B, 7, none⟩ = some (.string b.text)
  c8 : w.cell? ⟨B, 8, none⟩ = some tk
  f : ∀ j : Nat, j < 9 → w.frozen? ⟨B, j, none⟩ = false
  ty : Typed w B 115
  rows : StAt w b.now sl en
  tk : w.ownsRow (B + 1) 172 4 tk b.talks.length (b.talks.flatMap tkC)
theorem BoxIn.tkr {w : World} {B : Nat} {b : Bx.Bo} {sl en tk : Value} (h : BoxIn w B b sl en tk) : TRow w 172 tk b.talks.length (b.talks.flatMap tkC) := TRow.of_own h.tk
theorem BoxIn.later {w w' : World} {B : Nat} {b : Bx.Bo} {sl en tk : Value} (h : BoxIn w B b sl en tk) (hb : Below w.heap.size w w') : BoxIn w' B b sl en tk :=
  ⟨cell_later hb h.c0, cell_later hb h.c1, cell_later hb h.c2, cell_later hb h.c3, cell_later hb h.c4, cell_later hb h.c5, cell_later hb h.c6, cell_later hb h.c7, cell_later hb h.c8,
   fun j hj => (hb.frozen (p := ⟨B, j, none⟩) h.ty.lt).trans (h.f j hj), h.ty.later hb, h.rows.later hb, own_below h.tk hb⟩
theorem BoxIn.new (w : World) (l r : Int) : BoxIn (w.alloc (bxO ⟨l, r, Bx.first, ByteArray.empty, []⟩ nilV nilV nilV)) w.heap.size ⟨l, r, Bx.first, ByteArray.empty, []⟩ nilV nilV nilV := by
  refine ⟨?_, ?_, ?_, ?_, ?_, ?_, ?_, ?_, ?_, fun j _ => ?_, Typed.new _ _ _, ⟨TRow.nil _ _, TRow.nil _ _⟩, World.ownsRow_nil _ _ _ _⟩
  all_goals simp [go_sem]

/-- A block of one's own, whatever it holds. -/
def ZIn (W : World) (q n : Nat) : Prop := ∀ j : Nat, j < n → (∃ u, W.cell? ⟨q, j, none⟩ = some u) ∧ W.frozen? ⟨q, j, none⟩ = false
theorem ZIn.new (w : World) (cs : Array Value) (t : TypeId) : ZIn (w.alloc (.cells cs t)) w.heap.size cs.size := by
  intro j hj
  have hb : (w.alloc (.cells cs t)).heap[w.heap.size]? = some (.cells cs t (0, 0)) := by show (w.heap.push (.cells cs t))[w.heap.size]? = _; simp
  refine ⟨⟨cs[j], ?_⟩, ?_⟩
  · rw [cell_of_row _ _ j cs t (0, 0) hb]; simp [hj]
  · unfold World.frozen?; rw [hb]; simp
theorem ZIn.later {W W' : World} {q n : Nat} (h : ZIn W q n) (hq : q < W.heap.size) (hb : Below W.heap.size W W') : ZIn W' q n :=
  fun j hj => ⟨(h j hj).1.elim fun u hu => ⟨u, cell_later hb hu⟩, (hb.frozen (p := ⟨q, j, none⟩) hq).trans (h j hj).2⟩
set_option maxHeartbeats 1000000 in
theorem bstate_any (b : Bx.Bo) (B : Nat) (sl en tk : Value) (w : World) (hB : BoxIn w B b sl en tk) :
    Calls Tryz.prog 48 #[.pointer (some ⟨B, 0, none⟩)] w fun e w' => e = .returned (stV b.now sl en) ∧ Below w.heap.size w w' := by
  obtain ⟨ad, cap, rfl, hcap⟩ := hB.rows.sl.form
  obtain ⟨ad2, cap2, rfl, hcap2⟩ := hB.rows.en.form
  have hlt := hB.ty.lt
  obtain ⟨c0, c1, c2, c3, c4, c5, c6, c7, c8, _, _, _, _⟩ := hB
  go_enter Tryz.func48, Tryz.ntmps48
  go_wp2_with fail
  refine bodyPost_ret (v := stV b.now (.slice ad b.now.slots.length cap) (.slice ad2 b.now.ends.length cap2)) (by simp [results, Tryz.results48, go_sem]) rfl ⟨rfl, below_alloc _ _⟩

set_option maxHeartbeats 1000000 in
theorem rfirst_any (w : World) : Calls Tryz.prog 88 #[] w fun e w' => e = .returned (stV Bx.first nilV nilV) ∧ Below w.heap.size w w' := by
  go_enter Tryz.func88, Tryz.ntmps88
  go_wp2_with fail
  refine bodyPost_ret (v := stV Bx.first nilV nilV) (by simp [results, Tryz.results88, go_sem, Bx.first]; rfl) rfl ⟨rfl, below_alloc _ _⟩

set_option maxHeartbeats 1000000 in
theorem may_any (l r : Int) (w : World) : Calls Tryz.prog 56 #[.int .i64 l, .int .i64 r] w fun e w' => e = .returned (.bool (mayB l r)) ∧ w' = w := by
  have HM : Hid (mayB l r = decide (1 ≤ l ∧ l ≤ 4 ∧ 600 ≤ r ∧ r ≤ 4000)) := rfl
  by_cases h1 : 1 ≤ l
  · by_cases h2 : l ≤ 4
    · by_cases h3 : 600 ≤ r
      · by_cases h4 : r ≤ 4000
        · have HM' : Hid (mayB l r = true) := by unfold Hid; rw [HM.out]; exact decide_eq_true ⟨h1, h2, h3, h4⟩
          have e1 : decide (1 ≤ l) = true := decide_eq_true h1
          have e2 : decide (l ≤ 4) = true := decide_eq_true h2
          have e3 : decide (600 ≤ r) = true := decide_eq_true h3
          clear HM
          go_enter Tryz.func56, Tryz.ntmps56
          go_wp2_with fail
          go_ret
          exact ⟨ret_bool' HM'.out.symm, rfl⟩
        · have HM' : Hid (decide (r ≤ 4000) = mayB l r) := by unfold Hid; rw [HM.out, decide_eq_false h4]; exact (decide_eq_false (by omega)).symm
          have e1 : decide (1 ≤ l) = true := decide_eq_true h1
          have e2 : decide (l ≤ 4) = true := decide_eq_true h2
          have e3 : decide (600 ≤ r) = true := decide_eq_true h3
          clear HM h4
          go_enter Tryz.func56, Tryz.ntmps56
          go_wp2_with fail
          go_ret
          exact ⟨ret_bool' HM'.out, rfl⟩
      · have HM' : Hid (mayB l r = false) := by unfold Hid; rw [HM.out]; exact decide_eq_false (by omega)
        have e1 : decide (1 ≤ l) = true := decide_eq_true h1
        have e2 : decide (l ≤ 4) = true := decide_eq_true h2
        have e3 : decide (600 ≤ r) = false := decide_eq_false h3
        clear HM h3
        go_enter Tryz.func56, Tryz.ntmps56
        go_wp2_with fail
        go_ret
        exact ⟨ret_bool' HM'.out.symm, rfl⟩
    · have HM' : Hid (mayB l r = false) := by unfold Hid; rw [HM.out]; exact decide_eq_false (by omega)
      have e1 : decide (1 ≤ l) = true := decide_eq_true h1
      have e2 : decide (l ≤ 4) = false := decide_eq_false h2
      clear HM h2
      go_enter Tryz.func56, Tryz.ntmps56
      go_wp2_with fail
      go_ret
      exact ⟨ret_bool' HM'.out.symm, rfl⟩
  · have HM' : Hid (mayB l r = false) := by unfold Hid; rw [HM.out]; exact decide_eq_false (by omega)
    have e1 : decide (1 ≤ l) = false := decide_eq_false h1
    clear HM h1
    go_enter Tryz.func56, Tryz.ntmps56
    go_wp2_with fail
    go_ret
    exact ⟨ret_bool' HM'.out.symm, rfl⟩

set_option maxHeartbeats 1000000 in
theorem rnew_no (l r : Int) (w : World) (h : mayB l r = false) : Calls Tryz.prog 44 #[.int .i64 l, .int .i64 r] w fun e w' => e = .returned (.tuple #[.pointer none, .int .i64 4]) ∧ w' = w := by
  go_enter Tryz.func44, Tryz.ntmps44
  go_wp2_with fail
  refine (may_any l r _).mono ?_
  rintro e w1 ⟨rfl, rfl⟩
  go_wp2_with fail
  go_ret2
  exact ⟨rfl, rfl⟩
set_option maxHeartbeats 1000000 in
theorem rnew_yes (l r : Int) (w : World) (h : mayB l r = true) : Calls Tryz.prog 44 #[.int .i64 l, .int .i64 r] w fun e w' => (∃ B, e = .returned (.tuple #[.pointer (some ⟨B, 0, none⟩), .int .i64 0]) ∧ w.heap.size ≤ B ∧ BoxIn w' B ⟨l, r, Bx.first, ByteArray.empty, []⟩ nilV nilV nilV) ∧ Below w.heap.size w w' := by
  go_enter Tryz.func44, Tryz.ntmps44
  go_wp2_with fail
  refine (may_any l r _).mono ?_
  rintro e w1 ⟨rfl, rfl⟩
  go_wp2_with fail
  refine (rfirst_any _).mono ?_
  rintro e w1 ⟨rfl, hb1⟩
  have HB : Hid (BoxIn _ w1.heap.size ⟨l, r, Bx.first, ByteArray.empty, []⟩ nilV nilV nilV) := BoxIn.new w1 l r
  go_wp2_with fail
  go_ret2
  exact ⟨⟨_, rfl, hb1.size, HB.out⟩, hb1.alloc hb1.size _⟩

set_option maxHeartbeats 1000000 in
theorem rlog_any (b : Bx.Bo) (B : Nat) (sl en tk : Value) (w : World) (hB : BoxIn w B b sl en tk) :
    Calls Tryz.prog 45 #[.pointer (some ⟨B, 0, none⟩)] w fun e w' => e = .returned (.string b.text) ∧ w' = w := by
  obtain ⟨c0, c1, c2, c3, c4, c5, c6, c7, c8, _, _, _, _⟩ := hB
  go_enter Tryz.func45, Tryz.ntmps45
  go_wp2_with fail
  go_ret
  exact ⟨rfl, rfl⟩

set_option maxHeartbeats 1000000 in
theorem last_any (s : Bx.St) (sl en : Value) (w : World) (hE : s.ends.length ≤ 6) (hS : StAt w s sl en) :
    Calls Tryz.prog 110 #[stV s sl en] w fun e w' => e = .returned en ∧ Below w.heap.size w w' := by
  obtain ⟨ad, cap, rfl, hcap⟩ := hS.sl.form
  obtain ⟨ad2, cap2, rfl, hcap2⟩ := hS.en.form
  have z : ¬ (6 : Int) < (s.ends.length : Int) := by omega
  clear hS
  go_enter Tryz.func110, Tryz.ntmps110
  go_wp2_with fail
  go_ret
  exact ⟨rfl, below_alloc _ _⟩
/-- What Look tells. -/
abbrev viewV (s : Bx.St) : Value := .agg #[.int .i64 s.clock, .int .i64 s.next, .int .i64 s.slots.length, .int .i64 s.ends.length, .string s.tab]
set_option maxHeartbeats 1000000 in
theorem rlook_any (b : Bx.Bo) (B : Nat) (sl en tk : Value) (w : World) (hE : b.now.ends.length ≤ 6) (hB : BoxIn w B b sl en tk) :
    Calls Tryz.prog 61 #[.pointer (some ⟨B, 0, none⟩)] w fun e w' => e = .returned (viewV b.now) ∧ Below w.heap.size w w' := by
  obtain ⟨ad, cap, rfl, hcap⟩ := hB.rows.sl.form
  obtain ⟨ad2, cap2, rfl, hcap2⟩ := hB.rows.en.form
  have HB : Hid (BoxIn w B b (.slice ad b.now.slots.length cap) (.slice ad2 b.now.ends.length cap2) tk) := hB
  clear hB
  go_enter Tryz.func61, Tryz.ntmps61
  go_wp2_with fail
  refine (bstate_any b B _ _ tk _ (HB.out.later (below_alloc _ _))).mono ?_
  rintro e w1 ⟨rfl, hb1⟩
  have hS1 := (HB.out.later (below_alloc _ _)).rows.later hb1
  have hI := StIn.new w1 b.now (.slice ad b.now.slots.length cap) (.slice ad2 b.now.ends.length cap2)
  have hb2 := below_alloc w1 (stO b.now (.slice ad b.now.slots.length cap) (.slice ad2 b.now.ends.length cap2))
  have HS2 : Hid (StAt _ b.now (.slice ad b.now.slots.length cap) (.slice ad2 b.now.ends.length cap2)) := hS1.later hb2
  have hz1 := hb1.size
  go_wp2_with fail
  refine (last_any b.now _ _ _ hE HS2.out).mono ?_
  rintro e w2 ⟨rfl, hb3⟩
  have HZ : ZIn w2 w.heap.size 5 := ((((ZIn.new w #[.int .i64 0, .int .i64 0, .int .i64 0, .int .i64 0, .string { data := #[] }] 78).later (by simp) hb1).later (by simp at hz1; omega) hb2).later (by simp at hz1; simp; omega) hb3)
  obtain ⟨⟨u0, r0⟩, f0⟩ := HZ 0 (by decide)
  obtain ⟨⟨u1, r1⟩, f1⟩ := HZ 1 (by decide)
  obtain ⟨⟨u2, r2⟩, f2⟩ := HZ 2 (by decide)
  obtain ⟨⟨u3, r3⟩, f3⟩ := HZ 3 (by decide)
  obtain ⟨⟨u4, r4⟩, f4⟩ := HZ 4 (by decide)
  obtain ⟨d0, d1, d2, d3, d4⟩ := hI.later hb3
  have hz3 := hb3.size
  simp at hz1 hz3
  have B3 : Hid (Below w.heap.size w w2) := (((below_alloc w _).trans (hb1.mono (by simp))).trans (hb2.mono (by omega))).trans (hb3.mono (by simp; omega))
  clear HZ hI hS1 HS2 hb1 hb2 hb3
  go_wp2_with fail
  refine bodyPost_ret (v := viewV b.now) (by simp [results, Tryz.results61, go_sem, r0, r1, r2, r3, r4]) rfl ⟨rfl, ?_⟩
  repeat (refine Below.setCell ?_ (by simp) _)
  exact B3.out
end Go.Proofs.YtdajolpoiffimaaGreatDoor

namespace Go.Proofs.YtdajolpoiffimaaGreatDoor
open Go.RowKit

abbrev chO (c : Bx.Ch) : Obj := .cells #[.int .u8 c.kind, .string c.tab, .int .i64 c.n] 141
structure ChIn (W : World) (q : Nat) (c : Bx.Ch) : Prop where
  c0 : W.cell? ⟨q, 0, none⟩ = some (.int .u8 c.kind)
  c1 : W.cell? ⟨q, 1, none⟩ = some (.string c.tab)
  c2 : W.cell? ⟨q, 2, none⟩ = some (.int .i64 c.n)
theorem ChIn.later {W W' : World} {q : Nat} {c : Bx.Ch} (h : ChIn W q c) (hb : Below W.heap.size W W') : ChIn W' q c := ⟨cell_later hb h.c0, cell_later hb h.c1, cell_later hb h.c2⟩
theorem ChIn.new (w : World) (c : Bx.Ch) : ChIn (w.alloc (chO c)) w.heap.size c := ⟨by simp [go_sem], by simp [go_sem], by simp [go_sem]⟩
/-- The world in which a change is done. -/
structure DIn (w W : World) (s : Bx.St) (sl en : Value) (c : Bx.Ch) : Prop where
  st : StW W w.heap.size s sl en
  ch : ChIn W (w.heap.size + 1) c
  rs : StW W (w.heap.size + 2) stZ nilV nilV
  bel : Below w.heap.size w W
theorem DIn.later {w W W' : World} {s : Bx.St} {sl en : Value} {c : Bx.Ch} (h : DIn w W s sl en c) (hb : Below W.heap.size W W') : DIn w W' s sl en c :=
  ⟨h.st.later hb, h.ch.later hb, h.rs.later hb, h.bel.trans (hb.mono h.bel.size)⟩
theorem DIn.new (w : World) (s : Bx.St) (sl en : Value) (c : Bx.Ch) : DIn w (((w.alloc (stO s sl en)).alloc (chO c)).alloc (stO stZ nilV nilV)) s sl en c := by
  have b1 := below_alloc (w.alloc (stO s sl en)) (chO c)
  have b2 := below_alloc ((w.alloc (stO s sl en)).alloc (chO c)) (stO stZ nilV nilV)
  refine ⟨((StW.new w s sl en).later b1).later b2, ?_, ?_, ((below_alloc w _).alloc (by simp) _).alloc (by simp; omega) _⟩
  · have := (ChIn.new (w.alloc (stO s sl en)) c).later b2
    simpa using this
  · have := StW.new ((w.alloc (stO s sl en)).alloc (chO c)) stZ nilV nilV
    simpa using this
/-- The crontab is another. -/
theorem DIn.tab {w W : World} {s : Bx.St} {sl en : Value} {c : Bx.Ch} (h : DIn w W s sl en c) (t : ByteArray) : DIn w (W.setCell ⟨w.heap.size, 0, none⟩ (.string t)) { s with tab := t } sl en c := by
  obtain ⟨⟨⟨d0, d1, d2, d3, d4⟩, f, ty⟩, ⟨k0, k1, k2⟩, ⟨⟨r0, r1, r2, r3, r4⟩, f', ty'⟩, hbel⟩ := h
  refine ⟨⟨⟨?_, ?_, ?_, ?_, ?_⟩, fun j hj => ?_, ty.setCell _ _ _⟩, ⟨?_, ?_, ?_⟩, ⟨⟨?_, ?_, ?_, ?_, ?_⟩, fun j hj => ?_, ty'.setCell _ _ _⟩, hbel.setCell (by simp) _⟩
  case refine_6 => simp [go_sem, f j hj]
  case refine_15 => simp [go_sem, f' j hj]
  all_goals simp [go_sem, d0, d1, d2, d3, d4, k0, k1, k2, r0, r1, r2, r3, r4]

set_option maxRecDepth 10000 in
set_option maxHeartbeats 4000000 in
theorem do_any (s : Bx.St) (c : Bx.Ch) (sl en : Value) (w : World) (hO : Bx.StOk s) (ht : c.tab.size ≤ maxLen) (hS : StAt w s sl en) :
    Calls Tryz.prog 106 #[stV s sl en, chV c] w fun e w' => (∃ sl' en', e = .returned (.tuple #[stV (Bx.doP s c).1 sl' en', .bool (Bx.doP s c).2]) ∧ StAt w' (Bx.doP s c).1 sl' en') ∧ Below w.heap.size w w' := by
  obtain ⟨ad, cap, rfl, hcap⟩ := hS.sl.form
  obtain ⟨ad2, cap2, rfl, hcap2⟩ := hS.en.form
  have HS : Hid (StAt w s (.slice ad s.slots.length cap) (.slice ad2 s.ends.length cap2)) := hS
  have HO : Hid (Bx.StOk s) := hO
  have HD : Hid (DIn w _ s (.slice ad s.slots.length cap) (.slice ad2 s.ends.length cap2) c) := DIn.new w s _ _ c
  clear hS hO
  go_enter Tryz.func106, Tryz.ntmps106
  go_upto_region 1 with fail
  generalize ((w.alloc (stO s (.slice ad s.slots.length cap) (.slice ad2 s.ends.length cap2))).alloc (chO c)).alloc (stO stZ nilV nilV) = W at *
  have hD := HD.out
  cases k1 : (c.kind == 84)
  · have m1 : ¬ c.kind = 84 := by simpa using k1
    cases k2 : (c.kind == 67)
    · have m2 : ¬ c.kind = 67 := by simpa using k2
      have HP : Hid (Bx.doP s c = Bx.aboutP s c.kind c.n) := by unfold Hid Bx.doP; rw [if_neg m1, if_neg m2]
      obtain ⟨⟨⟨d0, d1, d2, d3, d4⟩, _, _⟩, ⟨e0, e1, e2⟩, _, _⟩ := hD
      clear m1 m2
      go_wp2_with fail
      refine (about_any s c.kind c.n _ _ _ HO.out (HS.out.later HD.out.bel)).mono ?_
      rintro e w1 ⟨⟨sl', en', rfl, hst⟩, hb1⟩
      obtain ⟨ad3, cap3, rfl, _⟩ := hst.sl.form
      obtain ⟨ad4, cap4, rfl, _⟩ := hst.en.form
      have hD1 := HD.out.later hb1
      have H4 : Hid (StAt _ (Bx.aboutP s c.kind c.n).1 _ _) := hst.store hD1.rs.ty (.string (Bx.aboutP s c.kind c.n).1.tab) (.int .i64 (Bx.aboutP s c.kind c.n).1.clock) (.int .i64 (Bx.aboutP s c.kind c.n).1.next) (.slice ad3 (Bx.aboutP s c.kind c.n).1.slots.length cap3) (.slice ad4 (Bx.aboutP s c.kind c.n).1.ends.length cap4)
      have B4 : Hid (Below w.heap.size w w1) := hD1.bel
      obtain ⟨⟨r0, r1, r2, r3, r4⟩, f, _⟩ := hD1.rs
      have f0 := f 0 (by decide); have f1 := f 1 (by decide); have f2 := f 2 (by decide); have f3 := f 3 (by decide); have f4 := f 4 (by decide)
      clear f hD1 d0 d1 d2 d3 d4 e0 e1 e2
      go_wp2_with fail
      refine bodyPost_ret (v := .tuple #[stV (Bx.aboutP s c.kind c.n).1 (.slice ad3 (Bx.aboutP s c.kind c.n).1.slots.length cap3) (.slice ad4 (Bx.aboutP s c.kind c.n).1.ends.length cap4), .bool (Bx.aboutP s c.kind c.n).2]) (by simp [results, Tryz.results106, go_sem, r0, r1, r2, r3, r4]) rfl ?_
      rw [HP.out]
      exact ⟨⟨_, _, rfl, H4.out⟩, below_set5 B4.out (by omega) _ _ _ _ _⟩
    · have m2 : c.kind = 67 := by simpa using k2
      have HP : Hid (Bx.doP s c = Bx.clockedP s c.n) := by unfold Hid Bx.doP; rw [if_neg m1, if_pos m2]
      obtain ⟨⟨⟨d0, d1, d2, d3, d4⟩, _, _⟩, ⟨e0, e1, e2⟩, _, _⟩ := hD
      clear m1 m2
      go_wp2_with fail
      refine (clocked_any s _ _ c.n _ HO.out (HS.out.later HD.out.bel)).mono ?_
      rintro e w1 ⟨⟨sl', en', rfl, hst⟩, hb1⟩
      obtain ⟨ad3, cap3, rfl, _⟩ := hst.sl.form
      obtain ⟨ad4, cap4, rfl, _⟩ := hst.en.form
      have hD1 := HD.out.later hb1
      have H4 : Hid (StAt _ (Bx.clockedP s c.n).1 _ _) := hst.store hD1.rs.ty (.string (Bx.clockedP s c.n).1.tab) (.int .i64 (Bx.clockedP s c.n).1.clock) (.int .i64 (Bx.clockedP s c.n).1.next) (.slice ad3 (Bx.clockedP s c.n).1.slots.length cap3) (.slice ad4 (Bx.clockedP s c.n).1.ends.length cap4)
      have B4 : Hid (Below w.heap.size w w1) := hD1.bel
      obtain ⟨⟨r0, r1, r2, r3, r4⟩, f, _⟩ := hD1.rs
      have f0 := f 0 (by decide); have f1 := f 1 (by decide); have f2 := f 2 (by decide); have f3 := f 3 (by decide); have f4 := f 4 (by decide)
      clear f hD1 d0 d1 d2 d3 d4 e0 e1 e2
      go_wp2_with fail
      refine bodyPost_ret (v := .tuple #[stV (Bx.clockedP s c.n).1 (.slice ad3 (Bx.clockedP s c.n).1.slots.length cap3) (.slice ad4 (Bx.clockedP s c.n).1.ends.length cap4), .bool (Bx.clockedP s c.n).2]) (by simp [results, Tryz.results106, go_sem, r0, r1, r2, r3, r4]) rfl ?_
      rw [HP.out]
      exact ⟨⟨_, _, rfl, H4.out⟩, below_set5 B4.out (by omega) _ _ _ _ _⟩
  · have m1 : c.kind = 84 := by simpa using k1
    have HP : Hid (Bx.doP s c = open Classical in if ChkR c.tab 0 0 ∧ s.slots.length = 0 then ({ s with tab := c.tab }, true) else (s, false)) := by unfold Hid Bx.doP; rw [if_pos m1]
    clear m1
    obtain ⟨⟨⟨d0, d1, d2, d3, d4⟩, _, _⟩, ⟨e0, e1, e2⟩, _, _⟩ := hD
    go_wp2_with fail
    refine (rcheck_any c.tab _ ht).mono ?_
    rintro e w1 ⟨⟨a, r, rfl, hCk, hr0⟩, hb1⟩
    have hD1 := HD.out.later hb1
    have HD1 : Hid (DIn w w1 s (.slice ad s.slots.length cap) (.slice ad2 s.ends.length cap2) c) := hD1
    clear d0 d1 d2 d3 d4 e0 e1 e2
    obtain ⟨⟨⟨d0, d1, d2, d3, d4⟩, fs, _⟩, ⟨e0, e1, e2⟩, ⟨⟨r0, r1, r2, r3, r4⟩, f, _⟩, _⟩ := hD1
    have f0 := f 0 (by decide); have f1 := f 1 (by decide); have f2 := f 2 (by decide); have f3 := f 3 (by decide); have f4 := f 4 (by decide)
    have g0 := fs 0 (by decide)
    have HCk : Hid (ChkR c.tab a r) := hCk
    have B4 : Hid (Below w.heap.size w w1) := HD1.out.bel
    clear f fs hCk
    by_cases hok : r = 0 ∧ s.slots.length = 0
    · obtain ⟨h1, h2⟩ := hok
      subst h1
      have hCk0 : ChkR c.tab 0 0 := by have := HCk.out; rwa [this.zero rfl] at this
      have HP' : Hid (Bx.doP s c = ({ s with tab := c.tab }, true)) := by unfold Hid; rw [HP.out, if_pos ⟨hCk0, h2⟩]
      have H4 : Hid (StAt _ { s with tab := c.tab } (.slice ad s.slots.length cap) (.slice ad2 s.ends.length cap2)) := (show StAt (w1.setCell ⟨w.heap.size, 0, none⟩ (.string c.tab)) { s with tab := c.tab } (.slice ad s.slots.length cap) (.slice ad2 s.ends.length cap2) from ⟨((HS.out.later B4.out).set HD1.out.st.ty (by decide) (by decide) 0 (.string c.tab)).sl, ((HS.out.later B4.out).set HD1.out.st.ty (by decide) (by decide) 0 (.string c.tab)).en⟩).store (HD1.out.rs.ty.setCell _ _ _) (.string c.tab) (.int .i64 s.clock) (.int .i64 s.next) (.slice ad s.slots.length cap) (.slice ad2 s.ends.length cap2)
      have z1 : ¬ (0 : Int) < (s.slots.length : Int) := by omega
      clear h2 hCk0 HP
      go_wp2_with fail
      refine bodyPost_ret (v := .tuple #[stV { s with tab := c.tab } (.slice ad s.slots.length cap) (.slice ad2 s.ends.length cap2), .bool true]) (by simp [results, Tryz.results106, go_sem, r0, r1, r2, r3, r4]) rfl ?_
      rw [HP'.out]
      exact ⟨⟨_, _, rfl, H4.out⟩, below_set5 (B4.out.setCell (by simp) _) (by omega) _ _ _ _ _⟩
    · have HP' : Hid (Bx.doP s c = (s, false)) := by
        unfold Hid; rw [HP.out, if_neg (fun h => hok ⟨(h.1.uniq HCk.out).2.symm, h.2⟩)]
      have H4 : Hid (StAt _ s (.slice ad s.slots.length cap) (.slice ad2 s.ends.length cap2)) := (HS.out.later B4.out).store HD1.out.rs.ty (.string s.tab) (.int .i64 s.clock) (.int .i64 s.next) (.slice ad s.slots.length cap) (.slice ad2 s.ends.length cap2)
      clear HP
      cases z0 : (r != 0)
      · have hr : r = 0 := by simpa using z0
        have z1 : (0 : Int) < (s.slots.length : Int) := by
          rcases Nat.eq_zero_or_pos s.slots.length with h | h
          · exact absurd ⟨hr, h⟩ hok
          · omega
        clear hr hok
        go_wp2_with fail
        refine bodyPost_ret (v := .tuple #[stV s (.slice ad s.slots.length cap) (.slice ad2 s.ends.length cap2), .bool false]) (by simp [results, Tryz.results106, go_sem, r0, r1, r2, r3, r4]) rfl ?_
        rw [HP'.out]
        exact ⟨⟨_, _, rfl, H4.out⟩, below_set5 B4.out (by omega) _ _ _ _ _⟩
      · clear hok
        go_wp2_with fail
        refine bodyPost_ret (v := .tuple #[stV s (.slice ad s.slots.length cap) (.slice ad2 s.ends.length cap2), .bool false]) (by simp [results, Tryz.results106, go_sem, r0, r1, r2, r3, r4]) rfl ?_
        rw [HP'.out]
        exact ⟨⟨_, _, rfl, H4.out⟩, below_set5 B4.out (by omega) _ _ _ _ _⟩
end Go.Proofs.YtdajolpoiffimaaGreatDoor

namespace Go.Proofs.YtdajolpoiffimaaGreatDoor
open Go.RowKit

/-- What holds while changes are told. -/
structure TldAt (w wr : World) (t : Bx.St) (sl en v : Value) (n : Nat) (cells : List Value) : Prop where
  st : StW wr w.heap.size t sl en
  rs : StW wr (w.heap.size + 1) stZ nilV nilV
  rows : StAt wr t sl en
  row : RowAt wr v n cells
  bel : Below w.heap.size w wr
theorem TldAt.later {w W W' : World} {t : Bx.St} {sl en v : Value} {n : Nat} {cells : List Value} (h : TldAt w W t sl en v n cells) (hb : Below W.heap.size W W') : TldAt w W' t sl en v n cells :=
  ⟨h.st.later hb, h.rs.later hb, h.rows.later hb, h.row.later hb, h.bel.trans (hb.mono h.bel.size)⟩
theorem TldAt.store {w W : World} {t : Bx.St} {sl en v : Value} {n : Nat} {cells : List Value} (h : TldAt w W t sl en v n cells) (u : Bx.St) (sl' en' : Value) (hu : StAt W u sl' en') (hr : RowAt w v n cells) :
    TldAt w (((((W.setCell ⟨w.heap.size, 0, none⟩ (.string u.tab)).setCell ⟨w.heap.size, 1, none⟩ (.int .i64 u.clock)).setCell ⟨w.heap.size, 2, none⟩ (.int .i64 u.next)).setCell ⟨w.heap.size, 3, none⟩ sl').setCell ⟨w.heap.size, 4, none⟩ en') u sl' en' v n cells := by
  refine ⟨h.st.store u sl' en', ?_, hu.store h.st.ty _ _ _ _ _, hr.later (below_set5 h.bel (Nat.le_refl _) _ _ _ _ _), below_set5 h.bel (Nat.le_refl _) _ _ _ _ _⟩
  obtain ⟨⟨c0, c1, c2, c3, c4⟩, f, ty1⟩ := h.rs
  refine ⟨⟨?_, ?_, ?_, ?_, ?_⟩, fun j hj => ?_, ((((ty1.setCell _ _ _).setCell _ _ _).setCell _ _ _).setCell _ _ _).setCell _ _ _⟩
  case refine_6 => simp [go_sem, f j hj]
  all_goals simp [go_sem, c0, c1, c2, c3, c4]
theorem rowAt_below {w W : World} {v : Value} {n : Nat} {cells : List Value} (h : RowAt w v n cells) (hb : Below w.heap.size w W) : RowAt W v n cells := h.later hb

theorem told_take (s : Bx.St) (L : List Bx.Ch) (k : Nat) (h : k < L.length) : Bx.told s (L.take (k + 1)) = Bx.tell (Bx.told s (L.take k)) L[k] := by
  unfold Bx.told
  rw [List.take_succ_eq_append_getElem h, List.foldl_append]; rfl

set_option maxRecDepth 10000 in
set_option maxHeartbeats 1000000 in
theorem told_any (s : Bx.St) (L : List Bx.Ch) (sl en v : Value) (w : World) (hO : Bx.StOk s) (hL : L.length ≤ 100) (hT : ∀ c ∈ L, c.tab.size ≤ maxLen) (hR : RowAt w v L.length (L.flatMap chC)) (hS : StAt w s sl en) :
    Calls Tryz.prog 134 #[stV s sl en, v] w fun e w' => (∃ sl' en', e = .returned (stV (Bx.told s L) sl' en') ∧ StAt w' (Bx.told s L) sl' en') ∧ Below w.heap.size w w' := by
  obtain ⟨ad, cap, rfl, hcap⟩ := hS.sl.form
  obtain ⟨ad2, cap2, rfl, hcap2⟩ := hS.en.form
  obtain ⟨adv, capv, rfl, hcv⟩ := hR.form
  have HO : Hid (∀ k, Bx.StOk (Bx.told s (L.take k))) := fun k => Bx.told_ok hO _
  have HT : Hid (∀ c ∈ L, c.tab.size ≤ maxLen) := hT
  have HF : Hid (∀ k (h : k < L.length), Bx.told s (L.take (k + 1)) = Bx.tell (Bx.told s (L.take k)) L[k]) := fun k h => told_take s L k h
  have HR0 : Hid (RowAt w (.slice adv L.length capv) L.length (L.flatMap chC)) := hR
  have b0 := below_alloc w (stO s (.slice ad s.slots.length cap) (.slice ad2 s.ends.length cap2))
  have b1 := below_alloc (w.alloc (stO s (.slice ad s.slots.length cap) (.slice ad2 s.ends.length cap2))) (stO stZ nilV nilV)
  have A1 : Hid (TldAt w ((w.alloc (stO s (.slice ad s.slots.length cap) (.slice ad2 s.ends.length cap2))).alloc (stO stZ nilV nilV)) s (.slice ad s.slots.length cap) (.slice ad2 s.ends.length cap2) (.slice adv L.length capv) L.length (L.flatMap chC)) := by
    refine ⟨(StW.new w s _ _).later b1, ?_, (hS.later b0).later b1, (hR.later b0).later b1, b0.trans (b1.mono (by simp))⟩
    have := StW.new (w.alloc (stO s (.slice ad s.slots.length cap) (.slice ad2 s.ends.length cap2))) stZ nilV nilV
    simpa using this
  clear hS hR hO hT b0 b1
  go_enter Tryz.func134, Tryz.ntmps134
  go_wp2_with fail
  generalize (w.alloc (stO s (.slice ad s.slots.length cap) (.slice ad2 s.ends.length cap2))).alloc (stO stZ nilV nilV) = W at *
  go_loopw [5] (fun iv wr => ∃ k : Nat, k ≤ L.length ∧ iv = .int .i64 k ∧ ∃ slk enk, TldAt w wr (Bx.told s (L.take k)) slk enk (.slice adv L.length capv) L.length (L.flatMap chC)) (fun iv _ => L.length - (intOf iv).toNat)
  case atStart => exact ⟨0, Nat.zero_le _, rfl, _, _, A1.out⟩
  case round =>
    obtain ⟨k, hk, rfl, slk, enk, hC⟩ := hrel
    have hOk := HO.out k
    by_cases hlt : k < L.length
    · have HFk : Hid (Bx.told s (L.take (k + 1)) = Bx.tell (Bx.told s (L.take k)) L[k]) := HF.out k hlt
      obtain ⟨b, off, cap', hv, _, hcl⟩ := hC.row.some' (by omega)
      cases hv
      have x0 : wr.cell? ⟨b, off + k * 3, none⟩ = some (.int .u8 L[k].kind) := RowAt.cell chC_len hcl k hlt 0 (by decide)
      have x1 : wr.cell? ⟨b, off + k * 3 + 1, none⟩ = some (.string L[k].tab) := RowAt.cell chC_len hcl k hlt 1 (by decide)
      have x2 : wr.cell? ⟨b, off + k * 3 + 2, none⟩ = some (.int .i64 L[k].n) := RowAt.cell chC_len hcl k hlt 2 (by decide)
      have hlb : b < wr.heap.size := World.block_lt_of_cell? _ _ x0
      have hts : L[k].tab.size ≤ maxLen := HT.out _ (List.getElem_mem _)
      clear hcl
      generalize L[k] = c at *
      generalize hTT : Bx.told s (L.take k) = T at *
      clear hTT
      obtain ⟨adk, capk, rfl, hck⟩ := hC.rows.sl.form
      obtain ⟨adn, capn, rfl, hcn⟩ := hC.rows.en.form
      have HC : Hid (TldAt w wr T (.slice adk T.slots.length capk) (.slice adn T.ends.length capn) (.slice (some ⟨b, off, none⟩) L.length capv) L.length (L.flatMap chC)) := hC
      have HOk : Hid (Bx.StOk T) := hOk
      obtain ⟨⟨d0, d1, d2, d3, d4⟩, fq, _⟩ := hC.st
      have g0 := fq 0 (by decide); have g1 := fq 1 (by decide); have g2 := fq 2 (by decide); have g3 := fq 3 (by decide); have g4 := fq 4 (by decide)
      have hlq : w.heap.size < wr.heap.size := hC.st.ty.lt
      have y1 : (0 : Int) ≤ (k : Int) := by omega
      have y2 : (k : Int) < (L.length : Int) := by omega
      have HStd : Hid (StAt wr.drew T (.slice adk T.slots.length capk) (.slice adn T.ends.length capn)) := hC.rows.later (Below.refl _ _).drew
      clear hC fq hOk
      go_wp2_with fail
      go_cut [6, 7] from 14 to 22 (fun s6 s7 wx => ∃ tq sl5 en5, s6 = .pointer (some ⟨tq, 0, none⟩) ∧ s7 = .bool (Bx.doP T c).2 ∧ StIn wx tq (Bx.doP T c).1 sl5 en5 ∧ StAt wx (Bx.doP T c).1 sl5 en5 ∧ TldAt w wx T (.slice adk T.slots.length capk) (.slice adn T.ends.length capn) (.slice (some ⟨b, off, none⟩) L.length capv) L.length (L.flatMap chC))
      case first =>
        have HStd2 : Hid (StAt (wr.alloc (stO stZ nilV nilV)).drew T (.slice adk T.slots.length capk) (.slice adn T.ends.length capn)) := (HC.out.rows.later (below_alloc _ _)).later (Below.refl _ _).drew
        go_region_with (first
          | (go_at_call 106; refine (do_any T c (.slice adk T.slots.length capk) (.slice adn T.ends.length capn) wr.drew HOk.out hts HStd.out).mono ?_; rintro e w2 ⟨⟨sl2, en2, rfl, hst2⟩, hb2⟩; obtain ⟨ad5, cap5, rfl, hc5⟩ := hst2.sl.form; obtain ⟨ad6, cap6, rfl, hc6⟩ := hst2.en.form; have hbA : Below wr.heap.size wr w2 := (Below.refl _ _).drew.trans hb2)
          | (go_at_call 106; refine (do_any T c (.slice adk T.slots.length capk) (.slice adn T.ends.length capn) (wr.alloc (stO stZ nilV nilV)).drew HOk.out hts HStd2.out).mono ?_; rintro e w2 ⟨⟨sl2, en2, rfl, hst2⟩, hb2⟩; obtain ⟨ad5, cap5, rfl, hc5⟩ := hst2.sl.form; obtain ⟨ad6, cap6, rfl, hc6⟩ := hst2.en.form; have hbB : Below wr.heap.size wr w2 := (below_alloc _ _).drew.trans (hb2.mono (by simp)); have hZ := ((StW.new wr stZ nilV nilV).later (Below.refl _ _).drew).later hb2; obtain ⟨⟨z0, z1, z2, z3, z4⟩, zf, zt⟩ := hZ; have HZ : Hid (StW w2 wr.heap.size stZ nilV nilV) := ((StW.new wr stZ nilV nilV).later (Below.refl _ _).drew).later hb2; have zf0 := zf 0 (by decide); have zf1 := zf 1 (by decide); have zf2 := zf 2 (by decide); have zf3 := zf 3 (by decide); have zf4 := zf 4 (by decide)))
        all_goals (go_wp2_with fail; go_meet)
        all_goals (first | (have hgo := hbA; exact ⟨_, _, _, rfl, rfl, StIn.new w2 (Bx.doP T c).1 _ _, hst2.later (below_alloc _ _), (HC.out.later hgo).later (below_alloc _ _)⟩) | exact ⟨_, _, _, rfl, rfl, (HZ.out.store (Bx.doP T c).1 _ _).st, hst2.store HZ.out.ty _ _ _ _ _, HC.out.later (below_set5 hbB (Nat.le_refl _) _ _ _ _ _)⟩)
      case rest =>
        obtain ⟨tq, sl5, en5, rfl, rfl, hI5, hS5, hT5⟩ := hcut
        obtain ⟨ad5, cap5, rfl, hc5⟩ := hS5.sl.form
        obtain ⟨ad6, cap6, rfl, hc6⟩ := hS5.en.form
        clear d0 d1 d2 d3 d4 g0 g1 g2 g3 g4 x0 x1 x2 HC HStd
        have HT5 : Hid (TldAt w wc T (.slice adk T.slots.length capk) (.slice adn T.ends.length capn) (.slice (some ⟨b, off, none⟩) L.length capv) L.length (L.flatMap chC)) := hT5
        have HTl : Hid (Bx.tell T c = if (Bx.doP T c).2 = true then (Bx.doP T c).1 else T) := rfl
        cases hok : (Bx.doP T c).2
        · have HN : Hid (Bx.told s (L.take (k + 1)) = T) := by unfold Hid; rw [HFk.out, HTl.out, hok]; rfl
          clear HTl hI5 hS5 hT5
          go_wp2_with fail
          go_roundw
          case rel => exact ⟨k + 1, by omega, by go_num, _, _, by rw [HN.out]; exact HT5.out⟩
          case measure => simp [intOf]; omega
        · have HN : Hid (Bx.told s (L.take (k + 1)) = (Bx.doP T c).1) := by unfold Hid; rw [HFk.out, HTl.out, hok]; rfl
          have HNx : Hid (TldAt w _ (Bx.doP T c).1 (.slice ad5 (Bx.doP T c).1.slots.length cap5) (.slice ad6 (Bx.doP T c).1.ends.length cap6) (.slice (some ⟨b, off, none⟩) L.length capv) L.length (L.flatMap chC)) := hT5.store (Bx.doP T c).1 _ _ hS5 HR0.out
          obtain ⟨d0, d1, d2, d3, d4⟩ := hI5
          obtain ⟨⟨e0, e1, e2, e3, e4⟩, fq, _⟩ := hT5.st
          have g0 := fq 0 (by decide); have g1 := fq 1 (by decide); have g2 := fq 2 (by decide); have g3 := fq 3 (by decide); have g4 := fq 4 (by decide)
          clear HTl hS5 hT5 fq
          generalize (Bx.doP T c).1 = U at *
          go_wp2_with fail
          go_roundw
          case rel => exact ⟨k + 1, by omega, by go_num, _, _, by rw [HN.out]; exact HNx.out⟩
          case measure => simp [intOf]; omega
    · obtain rfl : k = L.length := by omega
      rw [List.take_length] at hC
      have HC7 : Hid (StAt _ (Bx.told s L) slk enk) := hC.rows.store hC.rs.ty (.string (Bx.told s L).tab) (.int .i64 (Bx.told s L).clock) (.int .i64 (Bx.told s L).next) slk enk
      have HB6 : Hid (Below w.heap.size w wr) := hC.bel
      obtain ⟨ad7, cap7, rfl, _⟩ := hC.rows.sl.form
      obtain ⟨ad8, cap8, rfl, _⟩ := hC.rows.en.form
      obtain ⟨⟨d0, d1, d2, d3, d4⟩, _, _⟩ := hC.st
      obtain ⟨⟨r0, r1, r2, r3, r4⟩, f, _⟩ := hC.rs
      have f0 := f 0 (by decide); have f1 := f 1 (by decide); have f2 := f 2 (by decide); have f3 := f 3 (by decide); have f4 := f 4 (by decide)
      clear f hC hOk
      go_wp2_with fail
      refine bodyPost_ret (v := stV (Bx.told s L) (.slice ad7 (Bx.told s L).slots.length cap7) (.slice ad8 (Bx.told s L).ends.length cap8)) (by simp [results, Tryz.results134, go_sem, r0, r1, r2, r3, r4]) rfl ?_
      exact ⟨⟨_, _, rfl, HC7.out⟩, below_set5 HB6.out (by omega) _ _ _ _ _⟩
end Go.Proofs.YtdajolpoiffimaaGreatDoor

namespace Go.Proofs.YtdajolpoiffimaaGreatDoor
open Go.RowKit

/-- The box's log is another. -/
theorem BoxIn.txt {w : World} {B : Nat} {b : Bx.Bo} {sl en tk : Value} (h : BoxIn w B b sl en tk) (t : ByteArray) : BoxIn (w.setCell ⟨B, 7, none⟩ (.string t)) B { b with text := t } sl en tk := by
  obtain ⟨c0, c1, c2, c3, c4, c5, c6, c7, c8, f, ty, rows, tk⟩ := h
  refine ⟨?_, ?_, ?_, ?_, ?_, ?_, ?_, ?_, ?_, fun j hj => ?_, ty.setCell _ _ _, rows.set ty (by decide) (by decide) _ _, ownsRow_setCell_below tk (by simp) _⟩
  case refine_10 => simp [go_sem, f j hj]
  all_goals simp [go_sem, c0, c1, c2, c3, c4, c5, c6, c7, c8]
/-- The box's state is another. -/
theorem BoxIn.put {w : World} {B : Nat} {b : Bx.Bo} {sl en tk : Value} (h : BoxIn w B b sl en tk) (u : Bx.St) (sl' en' : Value) (hu : StAt w u sl' en') :
    BoxIn (((((w.setCell ⟨B, 2, none⟩ (.string u.tab)).setCell ⟨B, 3, none⟩ (.int .i64 u.clock)).setCell ⟨B, 4, none⟩ (.int .i64 u.next)).setCell ⟨B, 5, none⟩ sl').setCell ⟨B, 6, none⟩ en') B { b with now := u } sl' en' tk := by
  obtain ⟨c0, c1, c2, c3, c4, c5, c6, c7, c8, f, ty, rows, tk⟩ := h
  have t1 := ty.setCell B 2 (.string u.tab)
  have t2 := t1.setCell B 3 (.int .i64 u.clock)
  have t3 := t2.setCell B 4 (.int .i64 u.next)
  have t4 := t3.setCell B 5 sl'
  refine ⟨?_, ?_, ?_, ?_, ?_, ?_, ?_, ?_, ?_, fun j hj => ?_, t4.setCell _ _ _, ((((hu.set ty (by decide) (by decide) _ _).set t1 (by decide) (by decide) _ _).set t2 (by decide) (by decide) _ _).set t3 (by decide) (by decide) _ _).set t4 (by decide) (by decide) _ _, ownsRow_setCell_below (ownsRow_setCell_below (ownsRow_setCell_below (ownsRow_setCell_below (ownsRow_setCell_below tk (by simp) _) (by simp) _) (by simp) _) (by simp) _) (by simp) _⟩
  case refine_10 => simp [go_sem, f j hj]
  all_goals simp [go_sem, c0, c1, c2, c3, c4, c5, c6, c7, c8]

set_option maxHeartbeats 1000000 in
theorem add_no (b : Bx.Bo) (B : Nat) (sl en tk v : Value) (L : List Bx.Ch) (w : World) (hL : L.length ≤ 100) (hC : ∀ c ∈ L, ChOk c) (ht : b.text.size ≤ 100000) (hF : b.room < (b.text.size : Int) + (Bx.frames L).size) (hR : TRow w 141 v L.length (L.flatMap chC)) (hB : BoxIn w B b sl en tk) :
    Calls Tryz.prog 90 #[.pointer (some ⟨B, 0, none⟩), v] w fun e w' => e = .returned (.bool false) ∧ Below w.heap.size w w' := by
  obtain ⟨adv, capv, rfl, hcv⟩ := hR.form
  have HB : Hid (BoxIn w B b sl en tk) := hB
  have hfs : (Bx.frames L).size ≤ 100000 := by
    have := frames_sz L (fun c h => (hC c h).t) L.length (Nat.le_refl _)
    rw [List.take_length] at this; omega
  clear hB
  go_enter Tryz.func90, Tryz.ntmps90
  go_wp2_with fail
  refine (frames_any L _ _ hL hC hR.1).mono ?_
  rintro e w1 ⟨rfl, hb1⟩
  obtain ⟨c0, c1, c2, c3, c4, c5, c6, c7, c8, _, _, _, _⟩ := HB.out.later hb1
  have q1 : IntKind.i64.wrap ((b.text.size : Int) + ((Bx.frames L).size : Int)) = (b.text.size : Int) + ((Bx.frames L).size : Int) := by rw [IntKind.wrap_i64]; omega
  clear hC hR
  go_wp2_with fail
  go_quiet (fail)
  go_wp2_with fail
  go_ret
  exact ⟨rfl, below_drewN hb1 _⟩

set_option maxRecDepth 10000 in
set_option maxHeartbeats 2000000 in
theorem add_yes (b : Bx.Bo) (B : Nat) (sl en tk v : Value) (L : List Bx.Ch) (w : World) (hO : Bx.StOk b.now) (hL : L.length ≤ 100) (hC : ∀ c ∈ L, ChOk c) (ht : b.text.size ≤ 100000) (hF : ¬ b.room < (b.text.size : Int) + (Bx.frames L).size) (hR : TRow w 141 v L.length (L.flatMap chC)) (hB : BoxIn w B b sl en tk) :
    Calls Tryz.prog 90 #[.pointer (some ⟨B, 0, none⟩), v] w fun e w' => e = .returned (.bool true) ∧ (∃ sl' en', BoxIn w' B { b with text := b.text ++ Bx.frames L, now := Bx.told b.now L } sl' en' tk) ∧ w.grownBy w' (some B) := by
  obtain ⟨adv, capv, rfl, hcv⟩ := hR.form
  obtain ⟨ad, cap, rfl, hcap⟩ := hB.rows.sl.form
  obtain ⟨ad2, cap2, rfl, hcap2⟩ := hB.rows.en.form
  have HB : Hid (BoxIn w B b (.slice ad b.now.slots.length cap) (.slice ad2 b.now.ends.length cap2) tk) := hB
  have HO : Hid (Bx.StOk b.now) := hO
  have hfs : (Bx.frames L).size ≤ 100000 := by
    have := frames_sz L (fun c h => (hC c h).t) L.length (Nat.le_refl _)
    rw [List.take_length] at this; omega
  have HC : Hid (∀ c ∈ L, ChOk c) := hC
  have HR : Hid (TRow w 141 (.slice adv L.length capv) L.length (L.flatMap chC)) := hR
  clear hB hO hC hR
  go_enter Tryz.func90, Tryz.ntmps90
  go_wp2_with fail
  refine (frames_any L _ _ hL HC.out HR.out.1).mono ?_
  rintro e w1 ⟨rfl, hb1⟩
  have HB1 : Hid (BoxIn w1 B b (.slice ad b.now.slots.length cap) (.slice ad2 b.now.ends.length cap2) tk) := HB.out.later hb1
  have HR1 : Hid (TRow w1 141 (.slice adv L.length capv) L.length (L.flatMap chC)) := HR.out.later hb1
  have HG1 : Hid (w.grownBy w1 (some B)) := grow_of_below hb1 _
  obtain ⟨c0, c1, c2, c3, c4, c5, c6, c7, c8, f, _, _, _⟩ := HB1.out
  have f7 := f 7 (by decide)
  have q1 : IntKind.i64.wrap ((b.text.size : Int) + ((Bx.frames L).size : Int)) = (b.text.size : Int) + ((Bx.frames L).size : Int) := by rw [IntKind.wrap_i64]; omega
  have q2 : ¬ 9223372036854775807 < b.text.size + (Bx.frames L).size := by omega
  clear f hb1 HB HR
  go_wp2_with fail
  go_quiet (fail)
  go_wp2_with fail
  have B0 := HB1.out.later (below_drewN (Below.refl _ _) nq)
  have HB2 : Hid (BoxIn _ B { b with text := b.text ++ Bx.frames L } (.slice ad b.now.slots.length cap) (.slice ad2 b.now.ends.length cap2) tk) := B0.txt (b.text ++ Bx.frames L)
  have HR2 : Hid (TRow _ 141 (.slice adv L.length capv) L.length (L.flatMap chC)) := (HR1.out.later (below_drewN (Below.refl _ _) nq)).set B0.ty (by decide) 7 (.string (b.text ++ Bx.frames L))
  have HG2 : Hid (w.grownBy _ (some B)) := grow_set (grow_trans HG1.out (grow_of_below (below_drewN (Below.refl _ _) nq) _)) 7 (.string (b.text ++ Bx.frames L))
  clear c0 c1 c2 c3 c4 c5 c6 c7 c8 f7 B0 HB1 HR1 HG1
  generalize (w1.drewN nq).setCell ⟨B, 7, none⟩ (.string (b.text ++ Bx.frames L)) = W2 at *
  refine (told_any b.now L _ _ _ W2 HO.out hL (fun c h => by have := (HC.out c h).t; unfold maxLen; omega) HR2.out.1 HB2.out.rows).mono ?_
  rintro e w3 ⟨⟨sl3, en3, rfl, hst3⟩, hb3⟩
  obtain ⟨ad3, cap3, rfl, _⟩ := hst3.sl.form
  obtain ⟨ad4, cap4, rfl, _⟩ := hst3.en.form
  have hB3 := HB2.out.later hb3
  have HB4 : Hid (BoxIn _ B { b with text := b.text ++ Bx.frames L, now := Bx.told b.now L } (.slice ad3 (Bx.told b.now L).slots.length cap3) (.slice ad4 (Bx.told b.now L).ends.length cap4) tk) := hB3.put (Bx.told b.now L) _ _ hst3
  have HG3 : Hid (w.grownBy w3 (some B)) := grow_trans HG2.out (grow_of_below hb3 _)
  obtain ⟨c0, c1, c2, c3, c4, c5, c6, c7, c8, f, _, _, _⟩ := hB3
  have f2 := f 2 (by decide); have f3 := f 3 (by decide); have f4 := f 4 (by decide); have f5 := f 5 (by decide); have f6 := f 6 (by decide)
  clear f hst3 hb3
  go_wp2_with fail
  go_ret
  exact ⟨rfl, ⟨_, _, HB4.out⟩, grow_set (grow_set (grow_set (grow_set (grow_set HG3.out _ _) _ _) _ _) _ _) _ _⟩

set_option maxHeartbeats 1000000 in
theorem talk_any (b : Bx.Bo) (B : Nat) (n : Int) (sl en tk : Value) (w : World) (hl : b.talks.length ≤ 10000) (hB : BoxIn w B b sl en tk) :
    Calls Tryz.prog 112 #[.pointer (some ⟨B, 0, none⟩), .int .i64 n] w fun e w' => e = .returned (.int .i64 (talkOf b.talks n)) ∧ w' = w := by
  obtain ⟨ad, cap, rfl, hcap⟩ := hB.tkr.form
  have HR : Hid (RowAt w (.slice ad b.talks.length cap) b.talks.length (b.talks.flatMap tkC)) := hB.tkr.1
  obtain ⟨c0, c1, c2, c3, c4, c5, c6, c7, c8, _, _, _, _⟩ := hB
  go_enter Tryz.func112, Tryz.ntmps112
  go_wp2_with fail
  go_loop [5] (fun i => ∃ k : Nat, k ≤ b.talks.length ∧ i = .int .i64 k ∧ ∀ j (h : j < b.talks.length), j < k → ¬ b.talks[j].num = n) (fun i => b.talks.length - (intOf i).toNat)
  case atStart => exact ⟨0, Nat.zero_le _, rfl, fun j _ h => by omega⟩
  case round =>
    obtain ⟨k, hk, rfl, hno⟩ := hrel
    have Hno : Hid (∀ j (h : j < b.talks.length), j < k → ¬ b.talks[j].num = n) := hno
    clear hno
    by_cases hlt : k < b.talks.length
    · obtain ⟨b', off, cap', hv, _, hc⟩ := HR.out.some' (by omega)
      cases hv
      have x0 : w.cell? ⟨b', off + k * 4, none⟩ = some (.int .i64 b.talks[k].num) := RowAt.cell tkC_len hc k hlt 0 (by decide)
      clear hc
      have b1 : (0 : Int) ≤ (k : Int) := by omega
      have b2 : (k : Int) < (b.talks.length : Int) := by omega
      cases he : (b.talks[k].num == n)
      · have HN : Hid (∀ j (h : j < b.talks.length), j < k + 1 → ¬ b.talks[j].num = n) := by
          intro j h hj
          by_cases e : j = k
          · subst e; simpa using he
          · exact Hno.out j h (by omega)
        generalize b.talks[k].num = x at *
        go_wp2_with fail
        go_round
        case rel => exact ⟨k + 1, by omega, by go_num, HN.out⟩
        case measure => simp [intOf]; omega
      · have HN : Hid (talkOf b.talks n = k) := talkOf_some hlt (by simpa using he) (fun j h hj => Hno.out j h hj)
        generalize b.talks[k].num = x at *
        go_wp2_with fail
        go_ret
        exact ⟨ret_int HN.out.symm, rfl⟩
    · obtain rfl : k = b.talks.length := by omega
      have HN : Hid (talkOf b.talks n = -1) := talkOf_none (fun j h => Hno.out j h h)
      go_wp2_with fail
      go_ret
      exact ⟨ret_int HN.out.symm, rfl⟩
end Go.Proofs.YtdajolpoiffimaaGreatDoor

namespace Go.Proofs.YtdajolpoiffimaaGreatDoor
open Go.RowKit

/-- Where the talks' row lies then: where it lay, or in a block that is new. -/
def NewTk (w : World) (tk tk' : Value) : Prop := tk'.ownBlock = tk.ownBlock ∨ ∀ g, tk'.ownBlock = some g → w.heap.size ≤ g
theorem NewTk.grow {w w' : World} {tk tk' : Value} (h : NewTk w' tk tk') (hs : w.heap.size ≤ w'.heap.size) : NewTk w tk tk' := h.imp id fun f g e => Nat.le_trans hs (f g e)
theorem NewTk.own {w w' : World} {tk tk' : Value} {base n size : Nat} {e : TypeId} {xs : List Value} (h : w'.ownsRow base e size tk' n xs) (hs : w.heap.size ≤ base) : NewTk w tk tk' := Or.inr fun g e => Nat.le_trans hs (h.lt g e).1
theorem infoTalk : (Tryz.prog.info? 172).map (fun i => (i.zero, i.size, i.bytes)) = some (some (.agg #[.int .i64 0, .int .i64 0, .int .i64 0, .string ByteArray.empty]), 4, 40) := by kernel_rfl
theorem tkC_new (w : World) (x : Bx.Tk) (t : TypeId) : ∀ j u, (tkC x)[j]? = some u → (w.alloc (.cells #[.int .i64 x.num, .int .i64 x.at', .int .i64 x.since, .string x.heard] t)).cell? ((⟨w.heap.size, 0, none⟩ : Addr).add j) = some u := by
  intro j u hj
  match j, hj with
  | 0, hj => simp [tkC] at hj; subst hj; simp [Addr.add, go_sem]
  | 1, hj => simp [tkC] at hj; subst hj; simp [Addr.add, go_sem]
  | 2, hj => simp [tkC] at hj; subst hj; simp [Addr.add, go_sem]
  | 3, hj => simp [tkC] at hj; subst hj; simp [Addr.add, go_sem]
theorem tkC_one (x : Bx.Tk) : ∀ u ∈ tkC x, u.oneCell' = true := by
  intro u hu; simp [tkC] at hu; rcases hu with rfl | rfl | rfl | rfl <;> rfl
/-- The box's talks are others. -/
theorem BoxIn.tks {w : World} {B : Nat} {b : Bx.Bo} {sl en tk : Value} (h : BoxIn w B b sl en tk) (l : List Bx.Tk) (tk' : Value) (hl : w.ownsRow (B + 1) 172 4 tk' l.length (l.flatMap tkC)) : BoxIn (w.setCell ⟨B, 8, none⟩ tk') B { b with talks := l } sl en tk' := by
  obtain ⟨c0, c1, c2, c3, c4, c5, c6, c7, c8, f, ty, rows, tk⟩ := h
  refine ⟨?_, ?_, ?_, ?_, ?_, ?_, ?_, ?_, ?_, fun j hj => ?_, ty.setCell _ _ _, rows.set ty (by decide) (by decide) _ _, ownsRow_setCell_below hl (by simp) _⟩
  case refine_10 => simp [go_sem, f j hj]
  all_goals simp [go_sem, c0, c1, c2, c3, c4, c5, c6, c7, c8]

set_option maxRecDepth 10000 in
set_option maxHeartbeats 2000000 in
theorem hush_any (b : Bx.Bo) (B : Nat) (sl en tk : Value) (w : World) (hs : b.now.slots.length ≤ 10000) (hl : b.talks.length ≤ 1000) (hB : BoxIn w B b sl en tk) :
    Calls Tryz.prog 95 #[.pointer (some ⟨B, 0, none⟩)] w fun e w' => e = .returned (.tuple #[]) ∧ (∃ tk', BoxIn w' B { b with talks := hushL b.now b.talks } sl en tk' ∧ NewTk w tk tk') ∧ w.grownBy w' (some B) := by
  obtain ⟨i0, hi, hz0, hz1, hz2⟩ := info_parts infoTalk
  obtain ⟨ad, cap, rfl, hcap⟩ := hB.rows.sl.form
  obtain ⟨ad2, cap2, rfl, hcap2⟩ := hB.rows.en.form
  obtain ⟨ad3, cap3, rfl, hcap3⟩ := hB.tkr.form
  have HB : Hid (BoxIn w B b (.slice ad b.now.slots.length cap) (.slice ad2 b.now.ends.length cap2) (.slice ad3 b.talks.length cap3)) := hB
  clear hB
  go_enter Tryz.func95, Tryz.ntmps95
  go_wp2_with fail
  refine (bstate_any b B _ _ _ _ HB.out).mono ?_
  rintro e w1 ⟨rfl, hb1⟩
  have hb2 := below_alloc w1 (stO b.now (.slice ad b.now.slots.length cap) (.slice ad2 b.now.ends.length cap2))
  have hI := StIn.new w1 b.now (.slice ad b.now.slots.length cap) (.slice ad2 b.now.ends.length cap2)
  have hBB := (HB.out.later hb1).later hb2
  have hG : Below w.heap.size w (w1.alloc (stO b.now (.slice ad b.now.slots.length cap) (.slice ad2 b.now.ends.length cap2))) := hb1.trans (hb2.mono hb1.size)
  go_wp2_with fail
  generalize w1.alloc (stO b.now (.slice ad b.now.slots.length cap) (.slice ad2 b.now.ends.length cap2)) = W at *
  have HBW : Hid (BoxIn W B b (.slice ad b.now.slots.length cap) (.slice ad2 b.now.ends.length cap2) (.slice ad3 b.talks.length cap3)) := hBB
  have HI : Hid (StIn W w1.heap.size b.now (.slice ad b.now.slots.length cap) (.slice ad2 b.now.ends.length cap2)) := hI
  have HG : Hid (Below w.heap.size w W) := hG
  clear hBB hI hG hb1 hb2 HB
  generalize w1.heap.size = sq at *
  go_loopw [3, 4] (fun v i wr => ∃ k : Nat, k ≤ b.talks.length ∧ i = .int .i64 k ∧ wr.ownsRow W.heap.size 172 4 v (hushL b.now (b.talks.take k)).length ((hushL b.now (b.talks.take k)).flatMap tkC) ∧ Below W.heap.size W wr) (fun _ i _ => b.talks.length - (intOf i).toNat)
  case atStart => exact ⟨0, Nat.zero_le _, rfl, by simpa [hushL] using World.ownsRow_nil _ _ _ _, Below.refl _ _⟩
  case round =>
    obtain ⟨k, hk, rfl, hown, hbr⟩ := hrel
    have hsz := hbr.size
    have hBr := HBW.out.later hbr
    by_cases hlt : k < b.talks.length
    · have HT : Hid _ := hush_take b.now b.talks k hlt
      obtain ⟨d0, d1, d2, d3, d4⟩ := HI.out.later hbr
      obtain ⟨tb, toff, tcap, hv, _, hc⟩ := hBr.tkr.1.some' (by omega)
      cases hv
      have x0 : wr.cell? ⟨tb, toff + k * 4, none⟩ = some (.int .i64 b.talks[k].num) := RowAt.cell tkC_len hc k hlt 0 (by decide)
      have x1 : wr.cell? ⟨tb, toff + k * 4 + 1, none⟩ = some (.int .i64 b.talks[k].at') := RowAt.cell tkC_len hc k hlt 1 (by decide)
      have x2 : wr.cell? ⟨tb, toff + k * 4 + 2, none⟩ = some (.int .i64 b.talks[k].since) := RowAt.cell tkC_len hc k hlt 2 (by decide)
      have x3 : wr.cell? ⟨tb, toff + k * 4 + 3, none⟩ = some (.string b.talks[k].heard) := RowAt.cell tkC_len hc k hlt 3 (by decide)
      have hn : (hushL b.now (b.talks.take k)).length ≤ 1000 := by have := hush_len b.now (b.talks.take k); simp at this; omega
      have c8 := hBr.c8
      have hlB : B < wr.heap.size := hBr.ty.lt
      have hlt2 : tb < wr.heap.size := World.block_lt_of_cell? _ _ x0
      have hls : sq < wr.heap.size := World.block_lt_of_cell? _ _ d0
      have y1 : (0 : Int) ≤ (k : Int) := by omega
      have y2 : (k : Int) < (b.talks.length : Int) := by omega
      have HStd : Hid (StAt wr.drew b.now (.slice ad b.now.slots.length cap) (.slice ad2 b.now.ends.length cap2)) := hBr.rows.later (Below.refl _ _).drew
      have HBr : Hid (BoxIn wr B b (.slice ad b.now.slots.length cap) (.slice ad2 b.now.ends.length cap2) (.slice (some ⟨tb, toff, none⟩) b.talks.length cap3)) := hBr
      have hfb := find_bd b.now b.talks[k].num
      have HGo : Hid (goesOn b.now b.talks[k] = (decide (0 ≤ Bx.find b.now b.talks[k].num) && (Bx.slAt b.now (Bx.find b.now b.talks[k].num).toNat).runs)) := rfl
      clear hc hBr
      generalize hushL b.now (b.talks.take k) = M at *
      generalize b.talks[k] = x at *
      obtain ⟨F, hF⟩ : ∃ F : Int, F = Bx.find b.now x.num := ⟨_, rfl⟩
      rw [← hF] at hfb HGo
      have HF : Hid (F = Bx.find b.now x.num) := hF
      clear hF
      go_wp2_with fail
      go_cut [5] from 17 to 26 (fun s5 wx => s5 = .int .i64 F ∧ Below wr.heap.size wr wx)
      case first =>
        go_region_with ((go_at_call 94; refine (find_any b.now x.num (.slice ad b.now.slots.length cap) (.slice ad2 b.now.ends.length cap2) wr.drew hs HStd.out).mono ?_; rintro e w2 ⟨rfl, hb2⟩))
        all_goals (go_wp2_with fail; go_meet; exact ⟨by rw [HF.out], (Below.refl _ _).drew.trans hb2⟩)
      case rest =>
        obtain ⟨rfl, hbc⟩ := hcut
        have hown2 := own_below hown hbc
        have HBc : Hid (BoxIn wc B b (.slice ad b.now.slots.length cap) (.slice ad2 b.now.ends.length cap2) (.slice (some ⟨tb, toff, none⟩) b.talks.length cap3)) := HBr.out.later hbc
        have hbw : Below W.heap.size W wc := hbr.trans (hbc.mono hbr.size)
        have hszc := hbw.size
        replace x0 := cell_later hbc x0
        replace x1 := cell_later hbc x1
        replace x2 := cell_later hbc x2
        replace x3 := cell_later hbc x3
        replace c8 := cell_later hbc c8
        replace d3 := cell_later hbc d3
        clear d0 d1 d2 d4 hown hbr HStd HBr hlB hlt2 hls hsz
        by_cases hneg : F < 0
        · have HN : Hid (hushL b.now (b.talks.take (k + 1)) = M) := by
            unfold Hid; rw [HT.out, HGo.out, decide_eq_false (by omega)]; rfl
          have z1 : ¬ (0 : Int) ≤ F := by omega
          clear HT HGo x0 x1 x2 x3
          go_wp2_with fail
          go_roundw
          case rel => exact ⟨k + 1, by omega, by go_num, by rw [HN.out]; exact hown2, hbw⟩
          case measure => simp [intOf]; omega
        · obtain ⟨i, hiF⟩ : ∃ i : Nat, F = i := Int.eq_ofNat_of_zero_le (by omega)
          subst hiF
          simp only [Int.toNat_natCast] at HGo
          have hii : i < b.now.slots.length := by omega
          obtain ⟨b5, off5, cap5, hv5, _, hc5⟩ := HBc.out.rows.sl.1.some' (by omega)
          cases hv5
          have s5 : wc.cell? ⟨b5, off5 + i * 6 + 5, none⟩ = some (.bool (Bx.slAt b.now i).runs) := by rw [← slAt_eq b.now i hii]; exact (slot_cells hc5 i hii).2.2.2.2.2
          have z1 : (0 : Int) ≤ (i : Int) := by omega
          have z2 : (i : Int) < (b.now.slots.length : Int) := by omega
          clear hc5 hneg hfb
          cases hr : (Bx.slAt b.now i).runs
          · have HN : Hid (hushL b.now (b.talks.take (k + 1)) = M) := by
              unfold Hid; rw [HT.out, HGo.out, hr, Bool.and_false]; rfl
            rw [hr] at s5
            clear HT HGo x0 x1 x2 x3 hr
            go_wp2_with fail
            go_roundw
            case rel => exact ⟨k + 1, by omega, by go_num, by rw [HN.out]; exact hown2, hbw⟩
            case measure => simp [intOf]; omega
          · have HN : Hid (hushL b.now (b.talks.take (k + 1)) = M ++ [x]) := by
              unfold Hid; rw [HT.out, HGo.out, hr, decide_eq_true z1]; rfl
            rw [hr] at s5
            clear HT HGo hr
            go_wp2_with (at_builtin; refine wpList_append_lies _ rfl (.tmp 37) (.tmp 45) 113 rfl W.heap.size 172 i0 (.agg #[.int .i64 0, .int .i64 0, .int .i64 0, .string ByteArray.empty]) 4 40 Tryz.underlying113 hi hz0 hz1 hz2 rfl (by decide) _ _ _ rfl (hown2.alloc _) ⟨wc.heap.size, 0, none⟩ 1 1 (tkC x) rfl rfl (tkC_new _ _ _) (tkC_one x) (by decide) ?c3 ?c4 ?c5 _ rfl ?_)
            case c3 => unfold maxLen; omega
            case c4 => omega
            case c5 => simp; omega
            · intro g cap1 w4 hown' hgrow _ hlt'
              have B1 : Below W.heap.size W w4 := (hbw.alloc hszc _).grown hgrow (by simp; omega) (fun k' e => (hown2.lt k' e).1)
              have hown3 : w4.ownsRow W.heap.size 172 4 (.slice (some ⟨g, 0, none⟩) (M.length + 1) cap1) (M ++ [x]).length ((M ++ [x]).flatMap tkC) := by simpa using hown'
              clear hown' hgrow hown2 hbw x0 x1 x2 x3 c8 d3 s5 hbc
              go_wp2_with fail
              go_roundw
              case rel => exact ⟨k + 1, by omega, by go_num, by rw [HN.out]; exact hown3, B1⟩
              case measure => simp [intOf]; omega
    · obtain rfl : k = b.talks.length := by omega
      rw [List.take_length] at hown
      have HN : Hid (BoxIn _ B { b with talks := hushL b.now b.talks } (.slice ad b.now.slots.length cap) (.slice ad2 b.now.ends.length cap2) _) := hBr.tks (hushL b.now b.talks) _ (own_low hown HBW.out.ty.lt)
      have HNw : Hid (NewTk w (.slice ad3 b.talks.length cap3) _) := NewTk.own hown HG.out.size
      obtain ⟨ad7, cap7, rfl, _⟩ := (RowAt.of_own hown).form
      have HGr : Hid (w.grownBy wr (some B)) := grow_trans (grow_of_below HG.out _) (grow_of_below hbr _)
      have c8 := hBr.c8
      have f8 := hBr.f 8 (by decide)
      clear hown hbr hBr
      go_wp2_with fail
      exact bodyPost_end (v := .tuple #[]) (by simp [results, Tryz.results95, go_sem]) rfl ⟨rfl, ⟨_, HN.out, HNw.out⟩, grow_set HGr.out _ _⟩
end Go.Proofs.YtdajolpoiffimaaGreatDoor

namespace Go.Proofs.YtdajolpoiffimaaGreatDoor
open Go.RowKit

theorem chC_new (w : World) (x : Bx.Ch) (t : TypeId) : ∀ j (h : j < ([x].flatMap chC).length), (w.alloc (.cells #[.int .u8 x.kind, .string x.tab, .int .i64 x.n] t)).cell? ⟨w.heap.size, 0 + j, none⟩ = some ([x].flatMap chC)[j] := by
  intro j h
  match j, h with
  | 0, h => simp [chC, go_sem]
  | 1, h => simp [chC, go_sem]
  | 2, h => simp [chC, go_sem]
theorem ch_row (w : World) (x : Bx.Ch) : TRow (w.alloc (chO x)) 141 (.slice (some ⟨w.heap.size, 0, none⟩) 1 1) [x].length ([x].flatMap chC) :=
  ⟨Or.inr ⟨w.heap.size, 0, 1, rfl, by simp, chC_new w x _⟩, fun b off n cap h => by cases h; exact Typed.new _ _ _⟩
theorem chT_ok {tab : ByteArray} (h : tab.size ≤ 300) : ∀ c ∈ [chT tab], ChOk c := by
  intro c hc; simp at hc; subst hc; exact ⟨show (0 : Int) ≤ 84 by decide, show (84 : Int) ≤ 255 by decide, show (0 : Int) ≤ 0 by decide, show (0 : Int) ≤ 9223372036854775807 by decide, h⟩

set_option maxRecDepth 10000 in
set_option maxHeartbeats 2000000 in
theorem rload_any (b : Bx.Bo) (B : Nat) (tab : ByteArray) (sl en tk : Value) (w : World) (hO : BoOk b) (ht : tab.size ≤ maxLen) (hB : BoxIn w B b sl en tk) :
    Calls Tryz.prog 46 #[.pointer (some ⟨B, 0, none⟩), .string tab] w fun e w' => (∃ b' a r sl' en' tk', e = .returned (.tuple #[.int .i64 a, .int .i64 r]) ∧ LoadR b tab b' a r ∧ BoxIn w' B b' sl' en' tk' ∧ NewTk w tk tk') ∧ w.grownBy w' (some B) := by
  obtain ⟨ad, cap, rfl, hcap⟩ := hB.rows.sl.form
  obtain ⟨ad2, cap2, rfl, hcap2⟩ := hB.rows.en.form
  have HB : Hid (BoxIn w B b (.slice ad b.now.slots.length cap) (.slice ad2 b.now.ends.length cap2) tk) := hB
  have HO : Hid (BoOk b) := hO
  clear hB hO
  go_enter Tryz.func46, Tryz.ntmps46
  go_wp2_with fail
  refine (rcheck_any tab _ ht).mono ?_
  rintro e w1 ⟨⟨a, r, rfl, hCk, hr0⟩, hb1⟩
  have HCk : Hid (ChkR tab a r) := hCk
  have HB1 : Hid (BoxIn w1 B b (.slice ad b.now.slots.length cap) (.slice ad2 b.now.ends.length cap2) tk) := HB.out.later hb1
  have HG1 : Hid (w.grownBy w1 (some B)) := grow_of_below hb1 _
  clear hCk hb1 HB
  cases z0 : (r != 0)
  · have hr : r = 0 := by simpa using z0
    subst hr
    have hC0 : Hid (ChkR tab 0 0) := by have := HCk.out; rwa [this.zero rfl] at this
    clear HCk
    go_wp2_with fail
    refine (bstate_any b B _ _ _ _ HB1.out).mono ?_
    rintro e w2 ⟨rfl, hb2⟩
    have hb3 := below_alloc w2 (stO b.now (.slice ad b.now.slots.length cap) (.slice ad2 b.now.ends.length cap2))
    have HB3 : Hid (BoxIn (w2.alloc (stO b.now (.slice ad b.now.slots.length cap) (.slice ad2 b.now.ends.length cap2))) B b (.slice ad b.now.slots.length cap) (.slice ad2 b.now.ends.length cap2) tk) := (HB1.out.later hb2).later hb3
    have HG3 : Hid (w.grownBy (w2.alloc (stO b.now (.slice ad b.now.slots.length cap) (.slice ad2 b.now.ends.length cap2))) (some B)) := grow_trans HG1.out (grow_of_below (hb2.trans (hb3.mono hb2.size)) _)
    have hI := StIn.new w2 b.now (.slice ad b.now.slots.length cap) (.slice ad2 b.now.ends.length cap2)
    clear hb2 hb3 HB1 HG1
    go_upto_region 5 with fail
    generalize w2.alloc (stO b.now (.slice ad b.now.slots.length cap) (.slice ad2 b.now.ends.length cap2)) = W at *
    generalize w2.heap.size = sq at *
    have d3 := hI.c3
    clear hI
    by_cases hsl : 0 < b.now.slots.length
    · have z1 : (0 : Int) < (b.now.slots.length : Int) := by omega
      go_wp2_with fail
      go_ret2
      exact ⟨⟨b, 0, 5, _, _, _, rfl, Or.inr (Or.inl ⟨hC0.out, hsl, rfl, rfl, rfl⟩), HB3.out, Or.inl rfl⟩, HG3.out⟩
    · have z1 : ¬ (0 : Int) < (b.now.slots.length : Int) := by omega
      have hs0 : Hid (b.now.slots.length = 0) := by unfold Hid; omega
      clear hsl
      have hb4 := below_alloc W (chO (chT tab))
      have hR4 := ch_row W (chT tab)
      have hB4 := HB3.out.later hb4
      have HG4 : Hid (w.grownBy (W.alloc (chO (chT tab))) (some B)) := grow_trans HG3.out (grow_of_below hb4 _)
      have h300 := hC0.out.lines.1
      by_cases hF : fits b [chT tab]
      · go_wp2_with fail
        refine (add_yes b B _ _ tk _ [chT tab] _ HO.out.st (by simp) (chT_ok h300) HO.out.txt hF hR4 hB4).mono ?_
        rintro e w5 ⟨rfl, ⟨sl5, en5, hB5⟩, hg5⟩
        go_wp2_with fail
        go_ret2
        exact ⟨⟨_, 0, 0, _, _, _, rfl, Or.inr (Or.inr (Or.inr ⟨hC0.out, hs0.out, hF, rfl, rfl, rfl⟩)), hB5, Or.inl rfl⟩, grow_trans HG4.out hg5⟩
      · go_wp2_with fail
        refine (add_no b B _ _ tk _ [chT tab] _ (by simp) (chT_ok h300) HO.out.txt (by unfold fits at hF; omega) hR4 hB4).mono ?_
        rintro e w5 ⟨rfl, hb5⟩
        go_wp2_with fail
        go_ret2
        exact ⟨⟨b, 0, 13, _, _, _, rfl, Or.inr (Or.inr (Or.inl ⟨hC0.out, hs0.out, hF, rfl, rfl, rfl⟩)), hB4.later hb5, Or.inl rfl⟩, grow_trans HG4.out (grow_of_below hb5 _)⟩
  · have hr : ¬ r = 0 := by simpa using z0
    go_wp2_with fail
    go_ret2
    exact ⟨⟨b, a, r, _, _, _, rfl, Or.inl ⟨hr, HCk.out, rfl⟩, HB1.out, Or.inl rfl⟩, HG1.out⟩
end Go.Proofs.YtdajolpoiffimaaGreatDoor

namespace Go.Proofs.YtdajolpoiffimaaGreatDoor
open Go.RowKit

theorem infoCh : (Tryz.prog.info? 141).map (fun i => (i.zero, i.size, i.bytes)) = some (some (.agg #[.int .u8 0, .string ByteArray.empty, .int .i64 0]), 3, 32) := by kernel_rfl
theorem tickK_ok {b : Bx.Bo} {m : Int} (hO : BoOk b) (h0 : 0 ≤ m) (h1 : m ≤ 4223371679) (k : Nat) (hk : k ≤ b.now.slots.length) : ∀ c ∈ tickK b m k, ChOk c := by
  induction k with
  | zero =>
    intro c hc
    simp [tickK] at hc; subst hc
    exact ⟨show (0 : Int) ≤ 67 by decide, show (67 : Int) ≤ 255 by decide, h0, by show m ≤ _; omega, by show 0 ≤ 300; decide⟩
  | succ k ih =>
    rw [tickK]
    have hx := hO.st.each _ (Bx.slAt_mem (s := b.now) (i := k) (by omega))
    have := hO.st.n2
    split
    · intro c hc
      rcases List.mem_append.1 hc with hc | hc
      · exact ih (by omega) c hc
      · simp at hc; subst hc
        exact ⟨show (0 : Int) ≤ 70 by decide, show (70 : Int) ≤ 255 by decide, by show 0 ≤ (Bx.slAt b.now k).num; omega, by show (Bx.slAt b.now k).num ≤ _; omega, by show 0 ≤ 300; decide⟩
    · exact ih (by omega)
theorem comes_bd {s : Bx.St} {m : Int} (hO : Bx.StOk s) (hA : Bx.ahead s m = true) : (Bx.comesS s m).length ≤ 100000 := by
  have h1 := Bx.comes_len (Bx.lns s.tab) (Bx.newA s m) m
  have h2 : (Bx.lns s.tab).length ≤ 4 := by rw [Bx.lns, List.length_map, Bx.linesOf_len]; exact tn_le hO.tab
  have h3 : 0 ≤ m ∧ m ≤ 4223371679 ∧ s.clock < m ∧ (s.clock = -1 ∨ m - s.clock ≤ 1500) := of_decide_eq_true hA
  have h4 : m - Bx.newA s m ≤ 1500 := by unfold Bx.newA; split <;> omega
  have h5 : (m + 1 - Bx.newA s m).toNat * (Bx.lns s.tab).length ≤ 1501 * 4 := Nat.mul_le_mul (by omega) h2
  have h6 : (Bx.comesS s m).length ≤ (m + 1 - Bx.newA s m).toNat * (Bx.lns s.tab).length := h1
  omega
theorem chC_newA (w : World) (x : Bx.Ch) (t : TypeId) : ∀ j u, (chC x)[j]? = some u → (w.alloc (.cells #[.int .u8 x.kind, .string x.tab, .int .i64 x.n] t)).cell? ((⟨w.heap.size, 0, none⟩ : Addr).add j) = some u := by
  intro j u hj
  match j, hj with
  | 0, hj => simp [chC] at hj; subst hj; simp [Addr.add, go_sem]
  | 1, hj => simp [chC] at hj; subst hj; simp [Addr.add, go_sem]
  | 2, hj => simp [chC] at hj; subst hj; simp [Addr.add, go_sem]
theorem chC_one (x : Bx.Ch) : ∀ u ∈ chC x, u.oneCell' = true := by
  intro u hu; simp [chC] at hu; rcases hu with rfl | rfl | rfl <;> rfl
theorem ch_own (w : World) (x : Bx.Ch) : (w.alloc (chO x)).ownsRow w.heap.size 141 3 (.slice (some ⟨w.heap.size, 0, none⟩) 1 1) [x].length ([x].flatMap chC) :=
  ⟨rfl, Or.inr ⟨w.heap.size, 1, #[.int .u8 x.kind, .string x.tab, .int .i64 x.n], rfl, Nat.le_refl _, by show (w.heap.push (chO x))[w.heap.size]? = _; simp, by simp, by decide, rfl, rfl⟩⟩
set_option maxRecDepth 10000 in
set_option maxHeartbeats 3000000 in
theorem rtick_any (b : Bx.Bo) (B : Nat) (m : Int) (sl en tk : Value) (w : World) (hO : BoOk b) (hB : BoxIn w B b sl en tk) :
    Calls Tryz.prog 91 #[.pointer (some ⟨B, 0, none⟩), .int .i64 m] w fun e w' => (∃ sl' en' tk', e = .returned (.tuple #[.int .i64 (tickP b m).2.1, .int .i64 (tickP b m).2.2]) ∧ BoxIn w' B (tickP b m).1 sl' en' tk' ∧ NewTk w tk tk') ∧ w.grownBy w' (some B) := by
  obtain ⟨i0, hi, hz0, hz1, hz2⟩ := info_parts infoCh
  obtain ⟨ad, cap, rfl, hcap⟩ := hB.rows.sl.form
  obtain ⟨ad2, cap2, rfl, hcap2⟩ := hB.rows.en.form
  obtain ⟨ad3, cap3, rfl, hcap3⟩ := hB.tkr.form
  have HB : Hid (BoxIn w B b (.slice ad b.now.slots.length cap) (.slice ad2 b.now.ends.length cap2) (.slice ad3 b.talks.length cap3)) := hB
  have HO : Hid (BoOk b) := hO
  have hc1 := hO.st.c1
  have hc2 := hO.st.c2
  have hn1 := hO.st.n1
  have hn2 := hO.st.n2
  have hs8 := hO.st.sl
  have ht100 := hO.tks
  have HP : Hid (tickP b m = if ¬ minB m = true then (b, 0, 4)
    else if ¬ Bx.ahead b.now m = true then (b, 0, 6)
    else if 10000 < b.now.next + ((Bx.comesS b.now m).length : Int) then (b, 0, 7)
    else if b.room < (b.text.size : Int) + (Bx.frames (tickL b m)).size then (b, 0, 13)
    else ({ addB b (tickL b m) with talks := hushL (Bx.told b.now (tickL b m)) b.talks }, ((Bx.comesS b.now m).length : Int), 0)) := rfl
  clear hB hO
  go_enter Tryz.func91, Tryz.ntmps91
  go_wp2_with fail
  refine (isMinute_any m _).mono ?_
  rintro e w ⟨rfl, rfl⟩
  cases hm : minB m
  · have HP' : Hid (tickP b m = (b, 0, 4)) := by unfold Hid; rw [HP.out, hm]; rfl
    go_wp2_with fail
    go_ret2
    rw [HP'.out]
    exact ⟨⟨_, _, _, rfl, HB.out, Or.inl rfl⟩, grow_refl _ _⟩
  rw [hm] at HP
  simp only [not_true_eq_false, if_false] at HP
  have hmm : 0 ≤ m ∧ m ≤ 4223371679 := of_decide_eq_true hm
  clear hm
  go_wp2_with fail
  refine (bstate_any b B _ _ _ _ HB.out).mono ?_
  rintro e w2 ⟨rfl, hb2⟩
  have hb3 := below_alloc w2 (stO b.now (.slice ad b.now.slots.length cap) (.slice ad2 b.now.ends.length cap2))
  have HB3 : Hid (BoxIn (w2.alloc (stO b.now (.slice ad b.now.slots.length cap) (.slice ad2 b.now.ends.length cap2))) B b (.slice ad b.now.slots.length cap) (.slice ad2 b.now.ends.length cap2) (.slice ad3 b.talks.length cap3)) := (HB.out.later hb2).later hb3
  have HG3 : Hid (Below w.heap.size w (w2.alloc (stO b.now (.slice ad b.now.slots.length cap) (.slice ad2 b.now.ends.length cap2)))) := hb2.trans (hb3.mono hb2.size)
  have HI : Hid (StIn (w2.alloc (stO b.now (.slice ad b.now.slots.length cap) (.slice ad2 b.now.ends.length cap2))) w2.heap.size b.now (.slice ad b.now.slots.length cap) (.slice ad2 b.now.ends.length cap2)) := StIn.new w2 b.now _ _
  go_upto_region 5 with fail
  generalize w2.alloc (stO b.now (.slice ad b.now.slots.length cap) (.slice ad2 b.now.ends.length cap2)) = W at *
  generalize w2.heap.size = sq at *
  clear hb2 hb3 HB
  obtain ⟨d0, d1, d2, d3, d4⟩ := HI.out
  go_wp2_with fail
  refine (ahead_any b.now m _ _ _ hc1 hc2 HB3.out.rows).mono ?_
  rintro e w4 ⟨rfl, hb4⟩
  have HB4 : Hid (BoxIn w4 B b (.slice ad b.now.slots.length cap) (.slice ad2 b.now.ends.length cap2) (.slice ad3 b.talks.length cap3)) := HB3.out.later hb4
  have HI4 : Hid (StIn w4 sq b.now (.slice ad b.now.slots.length cap) (.slice ad2 b.now.ends.length cap2)) := HI.out.later hb4
  have HG4 : Hid (Below w.heap.size w w4) := HG3.out.trans (hb4.mono HG3.out.size)
  clear d0 d1 d2 d3 d4 HB3 HI HG3 hb4
  cases hah : Bx.ahead b.now m
  · have HP' : Hid (tickP b m = (b, 0, 6)) := by unfold Hid; rw [HP.out, hah]; rfl
    go_wp2_with fail
    go_ret2
    rw [HP'.out]
    exact ⟨⟨_, _, _, rfl, HB4.out, Or.inl rfl⟩, grow_of_below HG4.out _⟩
  have Hah : Hid (Bx.ahead b.now m = true) := hah
  rw [hah] at HP
  simp only [not_true_eq_false, if_false] at HP
  clear hah
  obtain ⟨d0, d1, d2, d3, d4⟩ := HI4.out
  go_wp2_with fail
  refine (comes_any b.now _ _ m _ HO.out.st.tab hc1 hc2 Hah.out HB4.out.rows).mono ?_
  rintro e w5 ⟨⟨v5, rfl, hown5⟩, hb5⟩
  obtain ⟨ad5, cap5, rfl, _⟩ := (RowAt.of_own hown5).form
  have HB5 : Hid (BoxIn w5 B b (.slice ad b.now.slots.length cap) (.slice ad2 b.now.ends.length cap2) (.slice ad3 b.talks.length cap3)) := HB4.out.later hb5
  have HI5 : Hid (StIn w5 sq b.now (.slice ad b.now.slots.length cap) (.slice ad2 b.now.ends.length cap2)) := HI4.out.later hb5
  have HG5 : Hid (Below w.heap.size w w5) := HG4.out.trans (hb5.mono HG4.out.size)
  have hln : (Bx.comesS b.now m).length ≤ 100000 := comes_bd HO.out.st Hah.out
  clear d0 d1 d2 d3 d4 HB4 HI4 HG4 hb5 hown5
  obtain ⟨d0, d1, d2, d3, d4⟩ := HI5.out
  generalize hnc : (Bx.comesS b.now m).length = nc at *
  clear hnc
  by_cases hids : 10000 < b.now.next + (nc : Int)
  · have HP' : Hid (tickP b m = (b, 0, 7)) := by unfold Hid; rw [HP.out, if_pos hids]
    go_wp2_with fail
    go_ret2
    rw [HP'.out]
    exact ⟨⟨_, _, _, rfl, HB5.out, Or.inl rfl⟩, grow_of_below HG5.out _⟩
  rw [if_neg hids] at HP
  clear d0 d1 d2 d3 d4
  have HOw : Hid ((w5.alloc (chO (chCl m))).ownsRow w5.heap.size 141 3 (.slice (some ⟨w5.heap.size, 0, none⟩) 1 1) (tickK b m 0).length ((tickK b m 0).flatMap chC)) := ch_own w5 (chCl m)
  obtain ⟨d0, d1, d2, d3, d4⟩ := HI5.out
  have q7 : IntKind.i64.wrap (b.now.next + (nc : Int)) = b.now.next + (nc : Int) := by rw [IntKind.wrap_i64]; omega
  go_wp2_with fail
  clear d0 d1 d2 d3 d4
  go_loopw [10, 11] (fun v i wr => ∃ k : Nat, k ≤ b.now.slots.length ∧ i = .int .i64 k ∧ wr.ownsRow w5.heap.size 141 3 v (tickK b m k).length ((tickK b m k).flatMap chC) ∧ Below w5.heap.size w5 wr) (fun _ i _ => b.now.slots.length - (intOf i).toNat)
  case atStart => exact ⟨0, Nat.zero_le _, rfl, HOw.out, below_alloc _ _⟩
  case round =>
    obtain ⟨k, hk, rfl, hown, hbr⟩ := hrel
    have hsz := hbr.size
    have hBr := HB5.out.later hbr
    have hlk := tickK_len b m k
    by_cases hlt : k < b.now.slots.length
    · have HT : Hid (tickK b m (k + 1) = if late b m (Bx.slAt b.now k).num = true then tickK b m k ++ [chF (Bx.slAt b.now k).num] else tickK b m k) := rfl
      have d3 := (HI5.out.later hbr).c3
      obtain ⟨b5, off5, cap5', hv5, _, hc5⟩ := hBr.rows.sl.1.some' (by omega)
      cases hv5
      have s0 : wr.cell? ⟨b5, off5 + k * 6, none⟩ = some (.int .i64 (Bx.slAt b.now k).num) := by rw [← slAt_eq b.now k hlt]; exact (slot_cells hc5 k hlt).1
      have y1 : (0 : Int) ≤ (k : Int) := by omega
      have y2 : (k : Int) < (b.now.slots.length : Int) := by omega
      have HBr : Hid (BoxIn wr B b (.slice (some ⟨b5, off5, none⟩) b.now.slots.length cap) (.slice ad2 b.now.ends.length cap2) (.slice ad3 b.talks.length cap3)) := hBr
      have HLt : Hid (late b m (Bx.slAt b.now k).num = (decide (0 ≤ talkOf b.talks (Bx.slAt b.now k).num) && decide ((tkAt b (talkOf b.talks (Bx.slAt b.now k).num).toNat).since + 3 ≤ m))) := rfl
      have htb := talkOf_bd b.talks (Bx.slAt b.now k).num
      clear hc5 hBr
      generalize tickK b m k = M at *
      generalize (Bx.slAt b.now k).num = n at *
      go_wp2_with fail
      refine (talk_any b B n _ _ _ _ (by omega) HBr.out).mono ?_
      rintro e w6 ⟨rfl, hw6⟩
      subst hw6
      generalize talkOf b.talks n = F at *
      by_cases hneg : F < 0
      · have HN : Hid (tickK b m (k + 1) = M) := by unfold Hid; rw [HT.out, HLt.out, decide_eq_false (by omega)]; rfl
        have z1 : ¬ (0 : Int) ≤ F := by omega
        clear HT HLt s0
        go_wp2_with fail
        go_roundw
        case rel => exact ⟨k + 1, by omega, by go_num, by rw [HN.out]; exact hown, hbr⟩
        case measure => simp [intOf]; omega
      · obtain ⟨i, hiF⟩ : ∃ i : Nat, F = i := Int.eq_ofNat_of_zero_le (by omega)
        subst hiF
        simp only [Int.toNat_natCast] at HLt
        have hii : i < b.talks.length := by omega
        have z1 : (0 : Int) ≤ (i : Int) := by omega
        have z2 : (i : Int) < (b.talks.length : Int) := by omega
        obtain ⟨b6, off6, cap6, hv6, _, hc6⟩ := HBr.out.tkr.1.some' (by omega)
        cases hv6
        have t2 : w6.cell? ⟨b6, off6 + i * 4 + 2, none⟩ = some (.int .i64 (tkAt b i).since) := by rw [← tkAt_eq b i hii]; exact RowAt.cell tkC_len hc6 i hii 2 (by decide)
        have c8 := HBr.out.c8
        have hsn := HO.out.since _ (List.getElem_mem hii)
        rw [tkAt_eq b i hii] at hsn
        have q3 : IntKind.i64.wrap ((tkAt b i).since + 3) = (tkAt b i).since + 3 := by rw [IntKind.wrap_i64]; omega
        clear hc6 hneg htb
        by_cases hlate : (tkAt b i).since + 3 ≤ m
        · have HN : Hid (tickK b m (k + 1) = M ++ [chF n]) := by unfold Hid; rw [HT.out, HLt.out, decide_eq_true z1, decide_eq_true hlate]; rfl
          clear HT HLt
          go_wp2_with (at_builtin; refine wpList_append_lies _ rfl (.tmp 67) (.tmp 75) 142 rfl w5.heap.size 141 i0 (.agg #[.int .u8 0, .string ByteArray.empty, .int .i64 0]) 3 32 Tryz.underlying142 hi hz0 hz1 hz2 rfl (by decide) _ _ _ rfl (hown.alloc _) ⟨w6.heap.size, 0, none⟩ 1 1 (chC (chF n)) rfl rfl (chC_newA _ (chF n) _) (chC_one (chF n)) (by decide) ?c3 ?c4 ?c5 _ rfl ?_)
          case c3 => unfold maxLen; omega
          case c4 => omega
          case c5 => simp; omega
          · intro g cap1 w7 hown' hgrow _ hlt'
            have B1 : Below w5.heap.size w5 w7 := (hbr.alloc hsz _).grown hgrow (by simp; omega) (fun k' e => (hown.lt k' e).1)
            have hown3 : w7.ownsRow w5.heap.size 141 3 (.slice (some ⟨g, 0, none⟩) (M.length + 1) cap1) (M ++ [chF n]).length ((M ++ [chF n]).flatMap chC) := by simpa using hown'
            clear hown' hgrow hown s0 t2 c8 d3
            go_wp2_with fail
            go_roundw
            case rel => exact ⟨k + 1, by omega, by go_num, by rw [HN.out]; exact hown3, B1⟩
            case measure => simp [intOf]; omega
        · have HN : Hid (tickK b m (k + 1) = M) := by unfold Hid; rw [HT.out, HLt.out, decide_eq_true z1, decide_eq_false hlate]; rfl
          clear HT HLt
          go_wp2_with fail
          go_roundw
          case rel => exact ⟨k + 1, by omega, by go_num, by rw [HN.out]; exact hown, hbr⟩
          case measure => simp [intOf]; omega
    · obtain rfl : k = b.now.slots.length := by omega
      have HL : Hid (tickK b m b.now.slots.length = tickL b m) := rfl
      have hCk := tickK_ok HO.out hmm.1 hmm.2 b.now.slots.length (Nat.le_refl _)
      rw [HL.out] at hown hlk hCk
      have HCk : Hid (∀ c ∈ tickL b m, ChOk c) := hCk
      have HR : Hid (TRow wr 141 _ (tickL b m).length ((tickL b m).flatMap chC)) := TRow.of_own hown
      obtain ⟨ad7, cap7, rfl, _⟩ := (RowAt.of_own hown).form
      have HBr : Hid (BoxIn wr B b (.slice ad b.now.slots.length cap) (.slice ad2 b.now.ends.length cap2) (.slice ad3 b.talks.length cap3)) := hBr
      have HGr : Hid (w.grownBy wr (some B)) := grow_trans (grow_of_below HG5.out _) (grow_of_below hbr _)
      have d3 := (HI5.out.later hbr).c3
      clear hown hbr hBr hCk HL HOw
      generalize tickL b m = L at *
      by_cases hF : b.room < (b.text.size : Int) + (Bx.frames L).size
      · have HP' : Hid (tickP b m = (b, 0, 13)) := by unfold Hid; rw [HP.out, if_pos hF]
        go_wp2_with fail
        refine (add_no b B _ _ _ _ L _ (by omega) HCk.out HO.out.txt hF HR.out HBr.out).mono ?_
        rintro e w8 ⟨rfl, hb8⟩
        clear d3
        go_wp2_with fail
        go_ret2
        rw [HP'.out]
        exact ⟨⟨_, _, _, rfl, HBr.out.later hb8, Or.inl rfl⟩, grow_trans HGr.out (grow_of_below hb8 _)⟩
      · have HP' : Hid (tickP b m = ({ addB b L with talks := hushL (Bx.told b.now L) b.talks }, (nc : Int), 0)) := by unfold Hid; rw [HP.out, if_neg hF]
        go_wp2_with fail
        refine (add_yes b B _ _ _ _ L _ HO.out.st (by omega) HCk.out HO.out.txt (by omega) HR.out HBr.out).mono ?_
        rintro e w8 ⟨rfl, ⟨sl8, en8, hB8⟩, hg8⟩
        clear d3
        have hsl8 : (Bx.told b.now L).slots.length ≤ 8 := (Bx.told_ok HO.out.st L).sl
        go_wp2_with fail
        refine (hush_any (addB b L) B _ _ _ _ (by show (Bx.told b.now L).slots.length ≤ 10000; omega) (by show b.talks.length ≤ 1000; omega) hB8).mono ?_
        rintro e w9 ⟨rfl, ⟨tk9, hB9, hn9⟩, hg9⟩
        go_wp2_with fail
        go_ret2
        rw [HP'.out]
        exact ⟨⟨_, _, _, rfl, hB9, hn9.grow (grow_trans HGr.out hg8).size⟩, grow_trans (grow_trans HGr.out hg8) hg9⟩
end Go.Proofs.YtdajolpoiffimaaGreatDoor

namespace Go.Proofs.YtdajolpoiffimaaGreatDoor
open Go.RowKit

/-- A slot as it is told. -/
abbrev aslV (x : Bx.Sl) (step : Int) : Value := .agg #[.int .i64 x.num, .int .i64 x.line, .int .i64 x.minute, .int .i64 x.att, .int .i64 x.frm, .int .i64 step]
abbrev aslZ : Value := .agg #[.int .i64 0, .int .i64 0, .int .i64 0, .int .i64 0, .int .i64 0, .int .i64 0]
/-- At which step a slot is. -/
def stepOf (b : Bx.Bo) (n : Int) : Int := if 0 ≤ talkOf b.talks n then (tkAt b (talkOf b.talks n).toNat).at' + 1 else 0

set_option maxHeartbeats 1000000 in
theorem rend_no (b : Bx.Bo) (B : Nat) (i : Int) (sl en tk : Value) (w : World) (hE : b.now.ends.length ≤ 6) (hi : i < 0 ∨ (b.now.ends.length : Int) ≤ i) (hB : BoxIn w B b sl en tk) :
    Calls Tryz.prog 65 #[.pointer (some ⟨B, 0, none⟩), .int .i64 i] w fun e w' => e = .returned (.tuple #[.agg #[.int .i64 0, .string ByteArray.empty], .int .i64 4]) ∧ Below w.heap.size w w' := by
  obtain ⟨ad, cap, rfl, hcap⟩ := hB.rows.sl.form
  obtain ⟨ad2, cap2, rfl, hcap2⟩ := hB.rows.en.form
  have HB : Hid (BoxIn w B b (.slice ad b.now.slots.length cap) (.slice ad2 b.now.ends.length cap2) tk) := hB
  clear hB
  go_enter Tryz.func65, Tryz.ntmps65
  go_wp2_with fail
  refine (bstate_any b B _ _ tk _ (HB.out.later (below_alloc _ _))).mono ?_
  rintro e w1 ⟨rfl, hb1⟩
  have hb0 := below_alloc w (.cells #[.int .i64 0, .string { data := #[] }] 95)
  have hZ := (ZIn.new w #[.int .i64 0, .string { data := #[] }] 95).later (by simp) hb1
  have hz1 := hb1.size
  have hS1 := (HB.out.later hb0).rows.later hb1
  have hI := StIn.new w1 b.now (.slice ad b.now.slots.length cap) (.slice ad2 b.now.ends.length cap2)
  have hb2 := below_alloc w1 (stO b.now (.slice ad b.now.slots.length cap) (.slice ad2 b.now.ends.length cap2))
  have HS2 : Hid (StAt _ b.now (.slice ad b.now.slots.length cap) (.slice ad2 b.now.ends.length cap2)) := hS1.later hb2
  simp at hz1
  go_wp2_with fail
  refine (last_any b.now _ _ _ hE HS2.out).mono ?_
  rintro e w2 ⟨rfl, hb3⟩
  have HZ : ZIn w2 w.heap.size 2 := ((hZ.later (by omega) hb2).later (by simp; omega) hb3)
  obtain ⟨⟨u0, r0⟩, f0⟩ := HZ 0 (by decide)
  obtain ⟨⟨u1, r1⟩, f1⟩ := HZ 1 (by decide)
  have B3 : Hid (Below w.heap.size w w2) := ((hb0.trans (hb1.mono (by simp))).trans (hb2.mono (by omega))).trans (hb3.mono (by simp; omega))
  clear HZ hZ hI hS1 HS2 hb1 hb2 hb3 hb0
  by_cases h0 : i < 0
  · go_wp2_with fail
    refine bodyPost_ret (v := .tuple #[.agg #[.int .i64 0, .string ByteArray.empty], .int .i64 4]) (by simp [results, Tryz.results65, go_sem, r0, r1]; rfl) rfl ⟨rfl, ?_⟩
    repeat (refine Below.setCell ?_ (by simp) _)
    exact B3.out
  · have h1 : (b.now.ends.length : Int) ≤ i := by omega
    clear hi
    go_wp2_with fail
    refine bodyPost_ret (v := .tuple #[.agg #[.int .i64 0, .string ByteArray.empty], .int .i64 4]) (by simp [results, Tryz.results65, go_sem, r0, r1]; rfl) rfl ⟨rfl, ?_⟩
    repeat (refine Below.setCell ?_ (by simp) _)
    exact B3.out

set_option maxHeartbeats 1000000 in
theorem rend_yes (b : Bx.Bo) (B i : Nat) (sl en tk : Value) (w : World) (hE : b.now.ends.length ≤ 6) (hi : i < b.now.ends.length) (hB : BoxIn w B b sl en tk) :
    Calls Tryz.prog 65 #[.pointer (some ⟨B, 0, none⟩), .int .i64 i] w fun e w' => e = .returned (.tuple #[.agg #[.int .i64 b.now.ends[i].num, .string b.now.ends[i].how], .int .i64 0]) ∧ Below w.heap.size w w' := by
  obtain ⟨ad, cap, rfl, hcap⟩ := hB.rows.sl.form
  obtain ⟨ad2, cap2, rfl, hcap2⟩ := hB.rows.en.form
  have HB : Hid (BoxIn w B b (.slice ad b.now.slots.length cap) (.slice ad2 b.now.ends.length cap2) tk) := hB
  clear hB
  go_enter Tryz.func65, Tryz.ntmps65
  go_wp2_with fail
  refine (bstate_any b B _ _ tk _ (HB.out.later (below_alloc _ _))).mono ?_
  rintro e w1 ⟨rfl, hb1⟩
  have hb0 := below_alloc w (.cells #[.int .i64 0, .string { data := #[] }] 95)
  have hZ := (ZIn.new w #[.int .i64 0, .string { data := #[] }] 95).later (by simp) hb1
  have hz1 := hb1.size
  have hS1 := (HB.out.later hb0).rows.later hb1
  have hI := StIn.new w1 b.now (.slice ad b.now.slots.length cap) (.slice ad2 b.now.ends.length cap2)
  have hb2 := below_alloc w1 (stO b.now (.slice ad b.now.slots.length cap) (.slice ad2 b.now.ends.length cap2))
  have HS2 : Hid (StAt _ b.now (.slice ad b.now.slots.length cap) (.slice ad2 b.now.ends.length cap2)) := hS1.later hb2
  simp at hz1
  go_wp2_with fail
  refine (last_any b.now _ _ _ hE HS2.out).mono ?_
  rintro e w2 ⟨rfl, hb3⟩
  have HZ : ZIn w2 w.heap.size 2 := ((hZ.later (by omega) hb2).later (by simp; omega) hb3)
  obtain ⟨⟨u0, r0⟩, f0⟩ := HZ 0 (by decide)
  obtain ⟨⟨u1, r1⟩, f1⟩ := HZ 1 (by decide)
  have B3 : Hid (Below w.heap.size w w2) := ((hb0.trans (hb1.mono (by simp))).trans (hb2.mono (by omega))).trans (hb3.mono (by simp; omega))
  obtain ⟨b5, off5, cap5, hv5, _, hc5⟩ := (HS2.out.later hb3).en.1.some' (by omega)
  cases hv5
  obtain ⟨e0, e1⟩ := end_cells hc5 i hi
  have z1 : (0 : Int) ≤ (i : Int) := by omega
  have z2 : (i : Int) < (b.now.ends.length : Int) := by omega
  have z3 : ¬ (b.now.ends.length : Int) ≤ (i : Int) := by omega
  clear HZ hZ hI hS1 HS2 hb1 hb2 hb3 hb0 hc5
  go_wp2_with fail
  refine bodyPost_ret (v := .tuple #[.agg #[.int .i64 b.now.ends[i].num, .string b.now.ends[i].how], .int .i64 0]) (by simp [results, Tryz.results65, go_sem, r0, r1]) rfl ⟨rfl, ?_⟩
  repeat (refine Below.setCell ?_ (by simp) _)
  exact B3.out

set_option maxHeartbeats 1000000 in
theorem rslot_no (b : Bx.Bo) (B : Nat) (i : Int) (sl en tk : Value) (w : World) (hi : i < 0 ∨ (b.now.slots.length : Int) ≤ i) (hB : BoxIn w B b sl en tk) :
    Calls Tryz.prog 63 #[.pointer (some ⟨B, 0, none⟩), .int .i64 i] w fun e w' => e = .returned (.tuple #[aslZ, .int .i64 4]) ∧ Below w.heap.size w w' := by
  obtain ⟨ad, cap, rfl, hcap⟩ := hB.rows.sl.form
  obtain ⟨ad2, cap2, rfl, hcap2⟩ := hB.rows.en.form
  have HB : Hid (BoxIn w B b (.slice ad b.now.slots.length cap) (.slice ad2 b.now.ends.length cap2) tk) := hB
  clear hB
  go_enter Tryz.func63, Tryz.ntmps63
  go_wp2_with fail
  refine (bstate_any b B _ _ tk _ (HB.out.later (below_alloc _ _))).mono ?_
  rintro e w1 ⟨rfl, hb1⟩
  have hb0 := below_alloc w (.cells #[.int .i64 0, .int .i64 0, .int .i64 0, .int .i64 0, .int .i64 0, .int .i64 0] 97)
  have hZ := (ZIn.new w #[.int .i64 0, .int .i64 0, .int .i64 0, .int .i64 0, .int .i64 0, .int .i64 0] 97).later (by simp) hb1
  have hz1 := hb1.size
  have hI := StIn.new w1 b.now (.slice ad b.now.slots.length cap) (.slice ad2 b.now.ends.length cap2)
  have hb2 := below_alloc w1 (stO b.now (.slice ad b.now.slots.length cap) (.slice ad2 b.now.ends.length cap2))
  simp at hz1
  have HZ : ZIn (w1.alloc (stO b.now (.slice ad b.now.slots.length cap) (.slice ad2 b.now.ends.length cap2))) w.heap.size 6 := hZ.later (by omega) hb2
  have B3 : Hid (Below w.heap.size w (w1.alloc (stO b.now (.slice ad b.now.slots.length cap) (.slice ad2 b.now.ends.length cap2)))) := (hb0.trans (hb1.mono (by simp))).trans (hb2.mono (by omega))
  go_upto_region 2 with fail
  generalize w1.alloc (stO b.now (.slice ad b.now.slots.length cap) (.slice ad2 b.now.ends.length cap2)) = W at *
  generalize w1.heap.size = sq at *
  obtain ⟨⟨u0, r0⟩, f0⟩ := HZ 0 (by decide)
  obtain ⟨⟨u1, r1⟩, f1⟩ := HZ 1 (by decide)
  obtain ⟨⟨u2, r2⟩, f2⟩ := HZ 2 (by decide)
  obtain ⟨⟨u3, r3⟩, f3⟩ := HZ 3 (by decide)
  obtain ⟨⟨u4, r4⟩, f4⟩ := HZ 4 (by decide)
  obtain ⟨⟨u5, r5⟩, f5⟩ := HZ 5 (by decide)
  have d3 := hI.c3
  clear HZ hZ hI hb1 hb2 hb0
  by_cases h0 : i < 0
  · go_wp2_with fail
    refine bodyPost_ret (v := .tuple #[aslZ, .int .i64 4]) (by simp [results, Tryz.results63, go_sem, r0, r1, r2, r3, r4, r5]) rfl ⟨rfl, ?_⟩
    repeat (refine Below.setCell ?_ (by simp) _)
    exact B3.out
  · have h1 : (b.now.slots.length : Int) ≤ i := by omega
    clear hi
    go_wp2_with fail
    refine bodyPost_ret (v := .tuple #[aslZ, .int .i64 4]) (by simp [results, Tryz.results63, go_sem, r0, r1, r2, r3, r4, r5]) rfl ⟨rfl, ?_⟩
    repeat (refine Below.setCell ?_ (by simp) _)
    exact B3.out

set_option maxRecDepth 10000 in
set_option maxHeartbeats 2000000 in
theorem rslot_yes (b : Bx.Bo) (B i : Nat) (sl en tk : Value) (w : World) (hO : BoOk b) (hi : i < b.now.slots.length) (hB : BoxIn w B b sl en tk) :
    Calls Tryz.prog 63 #[.pointer (some ⟨B, 0, none⟩), .int .i64 i] w fun e w' => e = .returned (.tuple #[aslV (Bx.slAt b.now i) (stepOf b (Bx.slAt b.now i).num), .int .i64 0]) ∧ Below w.heap.size w w' := by
  obtain ⟨ad, cap, rfl, hcap⟩ := hB.rows.sl.form
  obtain ⟨ad2, cap2, rfl, hcap2⟩ := hB.rows.en.form
  obtain ⟨ad3, cap3, rfl, hcap3⟩ := hB.tkr.form
  have HB : Hid (BoxIn w B b (.slice ad b.now.slots.length cap) (.slice ad2 b.now.ends.length cap2) (.slice ad3 b.talks.length cap3)) := hB
  have HO : Hid (BoOk b) := hO
  have ht100 := hO.tks
  clear hB hO
  go_enter Tryz.func63, Tryz.ntmps63
  go_wp2_with fail
  refine (bstate_any b B _ _ _ _ (HB.out.later (below_alloc _ _))).mono ?_
  rintro e w1 ⟨rfl, hb1⟩
  have hb0 := below_alloc w (.cells #[.int .i64 0, .int .i64 0, .int .i64 0, .int .i64 0, .int .i64 0, .int .i64 0] 97)
  have hZ := (ZIn.new w #[.int .i64 0, .int .i64 0, .int .i64 0, .int .i64 0, .int .i64 0, .int .i64 0] 97).later (by simp) hb1
  have hz1 := hb1.size
  have hI := StIn.new w1 b.now (.slice ad b.now.slots.length cap) (.slice ad2 b.now.ends.length cap2)
  have hb2 := below_alloc w1 (stO b.now (.slice ad b.now.slots.length cap) (.slice ad2 b.now.ends.length cap2))
  simp at hz1
  have HZ : Hid (ZIn (w1.alloc (stO b.now (.slice ad b.now.slots.length cap) (.slice ad2 b.now.ends.length cap2))) w.heap.size 6) := hZ.later (by omega) hb2
  have B3 : Hid (Below w.heap.size w (w1.alloc (stO b.now (.slice ad b.now.slots.length cap) (.slice ad2 b.now.ends.length cap2)))) := (hb0.trans (hb1.mono (by simp))).trans (hb2.mono (by omega))
  have HB2 : Hid (BoxIn (w1.alloc (stO b.now (.slice ad b.now.slots.length cap) (.slice ad2 b.now.ends.length cap2))) B b (.slice ad b.now.slots.length cap) (.slice ad2 b.now.ends.length cap2) (.slice ad3 b.talks.length cap3)) := ((HB.out.later hb0).later hb1).later hb2
  have hqW : w.heap.size < (w1.alloc (stO b.now (.slice ad b.now.slots.length cap) (.slice ad2 b.now.ends.length cap2))).heap.size := by simp; omega
  go_upto_region 2 with fail
  generalize w1.alloc (stO b.now (.slice ad b.now.slots.length cap) (.slice ad2 b.now.ends.length cap2)) = W at *
  generalize w1.heap.size = sq at *
  have d3 := hI.c3
  clear hZ hI hb1 hb2 hb0 HB hz1
  obtain ⟨b5, off5, cap5, hv5, _, hc5⟩ := HB2.out.rows.sl.1.some' (by omega)
  cases hv5
  obtain ⟨y0, y1, y2, y3, y4, y5⟩ := slot_cells hc5 i hi
  rw [slAt_eq b.now i hi] at y0 y1 y2 y3 y4 y5
  have z1 : (0 : Int) ≤ (i : Int) := by omega
  have z2 : (i : Int) < (b.now.slots.length : Int) := by omega
  have z3 : ¬ (b.now.slots.length : Int) ≤ (i : Int) := by omega
  have HSp : Hid (stepOf b (Bx.slAt b.now i).num = if 0 ≤ talkOf b.talks (Bx.slAt b.now i).num then (tkAt b (talkOf b.talks (Bx.slAt b.now i).num).toNat).at' + 1 else 0) := rfl
  clear hc5
  have hbx := (below_alloc W (slO (Bx.slAt b.now i))).alloc (by simp) (.cells #[.int .i64 (Bx.slAt b.now i).num, .int .i64 (Bx.slAt b.now i).line, .int .i64 (Bx.slAt b.now i).minute, .int .i64 (Bx.slAt b.now i).att, .int .i64 (Bx.slAt b.now i).frm, .int .i64 0] 97)
  have HB4 : Hid (BoxIn _ B b (.slice (some ⟨b5, off5, none⟩) b.now.slots.length cap) (.slice ad2 b.now.ends.length cap2) (.slice ad3 b.talks.length cap3)) := HB2.out.later hbx
  have hlB : B < W.heap.size := HB2.out.ty.lt
  obtain ⟨⟨u0, r0⟩, f0⟩ := HZ.out 0 (by decide)
  obtain ⟨⟨u1, r1⟩, f1⟩ := HZ.out 1 (by decide)
  obtain ⟨⟨u2, r2⟩, f2⟩ := HZ.out 2 (by decide)
  obtain ⟨⟨u3, r3⟩, f3⟩ := HZ.out 3 (by decide)
  obtain ⟨⟨u4, r4⟩, f4⟩ := HZ.out 4 (by decide)
  obtain ⟨⟨u5, r5⟩, f5⟩ := HZ.out 5 (by decide)
  have c8 := HB2.out.c8
  have HRt : Hid (RowAt W (.slice ad3 b.talks.length cap3) b.talks.length (b.talks.flatMap tkC)) := HB2.out.tkr.1
  clear hbx HZ HB2
  go_wp2_with fail
  refine (talk_any b B (Bx.slAt b.now i).num _ _ _ _ (by omega) HB4.out).mono ?_
  rintro e w6 ⟨rfl, hw6⟩
  subst hw6
  have htb := talkOf_bd b.talks (Bx.slAt b.now i).num
  generalize hFF : talkOf b.talks (Bx.slAt b.now i).num = F at *
  clear hFF
  by_cases hneg : F < 0
  · have HS0 : Hid (stepOf b (Bx.slAt b.now i).num = 0) := by unfold Hid; rw [HSp.out, if_neg (by omega)]
    have q1 : ¬ (0 : Int) ≤ F := by omega
    clear HSp y0 y1 y2 y3 y4 y5
    go_wp2_with fail
    refine bodyPost_ret (v := .tuple #[aslV (Bx.slAt b.now i) 0, .int .i64 0]) (by simp [results, Tryz.results63, go_sem, r0, r1, r2, r3, r4, r5, hqW]) rfl ?_
    rw [HS0.out]
    refine ⟨rfl, Below.alloc (Below.alloc ?_ (by simp; omega) _) (by simp; omega) _⟩
    repeat (refine Below.setCell ?_ (by simp) _)
    exact B3.out
  · obtain ⟨j, hjF⟩ : ∃ j : Nat, F = j := Int.eq_ofNat_of_zero_le (by omega)
    subst hjF
    have hjj : j < b.talks.length := by omega
    have HS0 : Hid (stepOf b (Bx.slAt b.now i).num = (tkAt b j).at' + 1) := by unfold Hid; rw [HSp.out, if_pos (by omega)]; simp
    have q1 : (0 : Int) ≤ (j : Int) := by omega
    have q2 : (j : Int) < (b.talks.length : Int) := by omega
    obtain ⟨b6, off6, cap6, hv6, _, hc6⟩ := HRt.out.some' (by omega)
    cases hv6
    have t1 : W.cell? ⟨b6, off6 + j * 4 + 1, none⟩ = some (.int .i64 (tkAt b j).at') := by rw [← tkAt_eq b j hjj]; exact RowAt.cell tkC_len hc6 j hjj 1 (by decide)
    have hlb6 : b6 < W.heap.size := World.block_lt_of_cell? _ _ t1
    have hat := HO.out.ats _ (List.getElem_mem hjj)
    rw [tkAt_eq b j hjj] at hat
    have q3 : IntKind.i64.wrap ((tkAt b j).at' + 1) = (tkAt b j).at' + 1 := by rw [IntKind.wrap_i64]; omega
    clear HSp y0 y1 y2 y3 y4 y5 hc6 htb hneg
    go_wp2_with fail
    refine bodyPost_ret (v := .tuple #[aslV (Bx.slAt b.now i) ((tkAt b j).at' + 1), .int .i64 0]) (by simp [results, Tryz.results63, go_sem, r0, r1, r2, r3, r4, r5, hqW]) rfl ?_
    rw [HS0.out]
    refine ⟨rfl, Below.alloc (Below.alloc ?_ (by simp; omega) _) (by simp; omega) _⟩
    repeat (refine Below.setCell ?_ (by simp) _)
    exact B3.out
end Go.Proofs.YtdajolpoiffimaaGreatDoor

namespace Go.Proofs.YtdajolpoiffimaaGreatDoor
open Go.RowKit

set_option maxHeartbeats 1000000 in
theorem rsteps_line (l : ByteArray) (w : World) (hs : l.size ≤ 300) (hP : LineP l) :
    Calls Tryz.prog 174 #[.string l] w fun e w' => (∃ v, e = .returned v ∧ RowAt w' v (stepsOf l).length ((stepsOf l).map Value.string)) ∧ Below w.heap.size w w' := by
  have h7 := hP.n7
  have h11 := hP.n11
  clear hP
  go_enter Tryz.func174, Tryz.ntmps174
  go_wp2_with fail
  refine (parts_any _ _ _ hs).mono ?_
  rintro e w1 ⟨⟨b, cap, rfl, hge, hcap, hS⟩, hb⟩
  have HS : Hid (StrsAt w1 b (Txt.pcs 32 l)) := hS
  have q1 : (6 : Int) ≤ ((Txt.pcs 32 l).length : Int) := by omega
  have q2 : 6 ≤ (Txt.pcs 32 l).length := by omega
  have q3 : ¬ cap = 6 := by omega
  have q4 : 6 < cap := by omega
  clear hS
  go_wp2_with fail
  go_ret
  refine ⟨⟨_, rfl, Or.inr ⟨b, 6, cap - 6, ?_, ?_, fun j hj => ?_⟩⟩, hb⟩
  · simp [stepsOf]
  · simp [stepsOf]; omega
  · simp [stepsOf] at hj
    have h2 : 6 + j < (Txt.pcs 32 l).length := by omega
    have := HS.out (6 + j) h2
    rw [this]; simp [stepsOf]

theorem ret_si {a b : ByteArray} {x y : Int} (h1 : a = b) (h2 : x = y) : Ending.returned (.tuple #[.string a, .int .i64 x]) = .returned (.tuple #[.string b, .int .i64 y]) := by rw [h1, h2]
set_option maxHeartbeats 1000000 in
theorem says_any (L : List ByteArray) (v : Value) (n : Nat) : ∀ (k : Nat) (w : World), k + n = L.length → L.length ≤ 100 → (∀ s ∈ L, 2 ≤ s.size ∧ s.size ≤ 9) → RowAt w v L.length (L.map Value.string) →
    Calls Tryz.prog 140 #[v, .int .i64 k] w fun e w' => e = .returned (.tuple #[.string (saysL (L.drop k)).1, .int .i64 ((k + (saysL (L.drop k)).2 : Nat) : Int)]) ∧ w' = w := by
  induction n with
  | zero =>
    intro k w hk hL hs hR
    obtain ⟨ad, cap, rfl, hcap⟩ := hR.form
    have hd : L.drop k = [] := List.drop_eq_nil_of_le (by omega)
    rw [hd]
    have q1 : (L.length : Int) ≤ (k : Int) := by omega
    clear hR hs
    go_enter Tryz.func140, Tryz.ntmps140
    go_wp2_with fail
    go_ret2
    exact ⟨by simp [saysL]; rfl, rfl⟩
  | succ n ih =>
    intro k w hk hL hs hR
    have hlt : k < L.length := by omega
    have IH : Hid (∀ (a : Int), a = ((k + 1 : Nat) : Int) → Calls Tryz.prog 140 #[v, .int .i64 a] w fun e w' => e = .returned (.tuple #[.string (saysL (L.drop (k + 1))).1, .int .i64 ((k + 1 + (saysL (L.drop (k + 1))).2 : Nat) : Int)]) ∧ w' = w) := by
      intro a ha; subst ha; exact ih (k + 1) w (by omega) hL hs hR
    have hd : L.drop k = L[k] :: L.drop (k + 1) := List.drop_eq_getElem_cons hlt
    have hk2 := hs L[k] (List.getElem_mem _)
    have hsz := saysL_size (L.drop (k + 1)) (fun s h => (hs s (List.mem_of_mem_drop h)).2)
    have HD : Hid (saysL (L.drop k) = if L[k].data.toList.head? = some 60 then (ByteArray.empty, 0) else (L[k].extract 1 L[k].size ++ (saysL (L.drop (k + 1))).1, (saysL (L.drop (k + 1))).2 + 1)) := by rw [hd]; rfl
    obtain ⟨b, off, cap, hv, hcap, hc⟩ := hR.some' (by omega)
    subst hv
    have x0 : w.cell? ⟨b, off + k, none⟩ = some (.string L[k]) := by have := hc k (by simpa using hlt); rw [this]; simp
    clear hc hR ih hd hs
    generalize L[k] = s at *
    generalize saysL (L.drop (k + 1)) = R at *
    have y1 : (0 : Int) ≤ (k : Int) := by omega
    have y2 : (k : Int) < (L.length : Int) := by omega
    have y3 : ¬ (L.length : Int) ≤ (k : Int) := by omega
    have hp : 0 < s.size := by omega
    rw [head_at hp] at HD
    simp at hsz
    cases he : ((s[0].toNat : Int) == 60)
    · have hne : ¬ s[0] = 60 := by
        intro h
        have : ((s[0].toNat : Int) == 60) = true := by rw [h]; rfl
        rw [he] at this; cases this
      have HD2 : Hid (saysL (L.drop k) = (s.extract 1 s.size ++ R.1, R.2 + 1)) := by unfold Hid; rw [HD.out, if_neg (by simpa using hne)]
      have q5 : ¬ 9223372036854775807 < s.size - 1 + R.1.size := by omega
      have q6 : ¬ 9223372036854775807 < (s.extract 1 s.size).size + R.1.size := by simp; omega
      clear HD hne
      go_enter Tryz.func140, Tryz.ntmps140
      go_wp2_with fail
      refine (IH.out _ (by push_cast; rfl)).mono ?_
      rintro e w1 ⟨rfl, rfl⟩
      go_wp2_with fail
      go_ret2
      rw [HD2.out]
      exact ⟨ret_si rfl (by push_cast; omega), rfl⟩
    · have hye : s[0] = 60 := by
        have h1 : (s[0].toNat : Int) = 60 := by simpa using he
        exact UInt8.toNat_inj.1 (by have : s[0].toNat = 60 := by omega
                                    simpa using this)
      have HD2 : Hid (saysL (L.drop k) = (ByteArray.empty, 0)) := by unfold Hid; rw [HD.out, if_pos (by simpa using hye)]
      clear HD hye
      go_enter Tryz.func140, Tryz.ntmps140
      go_wp2_with fail
      go_ret2
      rw [HD2.out]
      exact ⟨rfl, rfl⟩

set_option maxHeartbeats 1000000 in
theorem bsteps_any (s : Bx.St) (i j : Nat) (p sl en : Value) (w : World) (hT : ChkR s.tab 0 0) (hi : i < s.slots.length) (hl : s.slots.length ≤ 10000) (hln : (Bx.slAt s i).line = (j : Int) + 1) (hj : j < tn s.tab) (hS : StAt w s sl en) :
    Calls Tryz.prog 139 #[p, stV s sl en, .int .i64 i] w fun e w' => (∃ v, e = .returned v ∧ RowAt w' v (stepsS s j).length ((stepsS s j).map Value.string)) ∧ Below w.heap.size w w' := by
  obtain ⟨ad, cap, rfl, hcap⟩ := hS.sl.form
  obtain ⟨ad2, cap2, rfl, hcap2⟩ := hS.en.form
  have hb0 := below_alloc w (stO s (.slice ad s.slots.length cap) (.slice ad2 s.ends.length cap2))
  have hI := StIn.new w s (.slice ad s.slots.length cap) (.slice ad2 s.ends.length cap2)
  have hS' := hS.later hb0
  have hq0 : w.heap.size < (w.alloc (stO s (.slice ad s.slots.length cap) (.slice ad2 s.ends.length cap2))).heap.size := by simp
  clear hS
  obtain ⟨h300, _, hlines⟩ := hT.lines
  have hLP : Hid (LineP (tl s.tab j)) := hlines _ hj
  have hLs : (tl s.tab j).size ≤ 300 := tl_sz h300 _ (by have := tn_lt s.tab; omega)
  have HT : Hid (ChkR s.tab 0 0) := hT
  have h4 := tn_le' hT
  have Hln : Hid ((Bx.slAt s i).line = (j : Int) + 1) := hln
  clear hlines hT hln
  go_enter Tryz.func139, Tryz.ntmps139
  go_wp2_with fail
  generalize w.alloc (stO s (.slice ad s.slots.length cap) (.slice ad2 s.ends.length cap2)) = W at *
  refine (stlines_any s _ _ _ HT.out hS').mono ?_
  rintro e w1 ⟨⟨bl, capl, rfl, hL⟩, hb1⟩
  have HR1 : Hid (RowAt w1 (.slice ad s.slots.length cap) s.slots.length (s.slots.flatMap slC)) := hS'.sl.1.later hb1
  have c3 := (hI.later hb1).c3
  have cl : w1.cell? ⟨bl, j, none⟩ = some (.string (tl s.tab j)) := hL _ hj
  have HB : Hid (Below w.heap.size w w1) := hb0.trans (hb1.mono (by omega))
  obtain ⟨b, off, cap', hv, _, hc⟩ := HR1.out.some' (by omega)
  cases hv
  have ci : w1.cell? ⟨b, off + i * 6 + 1, none⟩ = some (.int .i64 ((j : Int) + 1)) := by rw [← Hln.out, ← slAt_eq s i hi]; exact RowAt.cell slC_len hc i hi 1 (by decide)
  have b1 : (0 : Int) ≤ (i : Int) := by omega
  have b2 : (i : Int) < (s.slots.length : Int) := by omega
  have b3 : (j : Int) < (tn s.tab : Int) := by omega
  clear hI hS' hb0 hb1 hL hc
  go_wp2_with fail
  refine (rsteps_line (tl s.tab j) _ hLs hLP.out).mono ?_
  rintro e w2 ⟨⟨v, rfl, hR⟩, hb2⟩
  obtain ⟨adv, capv, rfl, _⟩ := hR.form
  clear c3 cl ci
  go_wp2_with fail
  go_ret
  exact ⟨⟨_, rfl, hR⟩, HB.out.trans (hb2.mono HB.out.size)⟩

theorem chN_ok {k n : Int} (h1 : 0 ≤ k) (h2 : k ≤ 255) (h3 : 0 ≤ n) (h4 : n ≤ 100000) : ChOk ⟨k, { data := #[] }, n⟩ := ⟨h1, h2, h3, by show n ≤ _; omega, by show 0 ≤ 300; decide⟩
set_option maxRecDepth 10000 in
set_option maxHeartbeats 2000000 in
theorem rcancel_any (b : Bx.Bo) (B : Nat) (n : Int) (sl en tk : Value) (w : World) (hO : BoOk b) (hB : BoxIn w B b sl en tk) :
    Calls Tryz.prog 50 #[.pointer (some ⟨B, 0, none⟩), .int .i64 n] w fun e w' => (∃ sl' en' tk', e = .returned (.int .i64 (cancelP b n).2) ∧ BoxIn w' B (cancelP b n).1 sl' en' tk' ∧ NewTk w tk tk') ∧ w.grownBy w' (some B) := by
  obtain ⟨ad, cap, rfl, hcap⟩ := hB.rows.sl.form
  obtain ⟨ad2, cap2, rfl, hcap2⟩ := hB.rows.en.form
  have HB : Hid (BoxIn w B b (.slice ad b.now.slots.length cap) (.slice ad2 b.now.ends.length cap2) tk) := hB
  have HO : Hid (BoOk b) := hO
  have hs8 := hO.st.sl
  have ht100 := hO.tks
  have HP : Hid (cancelP b n = if Bx.find b.now n < 0 then (b, 8)
    else if b.room < (b.text.size : Int) + (Bx.frames [chK n]).size then (b, 13)
    else ({ addB b [chK n] with talks := hushL (Bx.told b.now [chK n]) b.talks }, 0)) := rfl
  clear hB hO
  go_enter Tryz.func50, Tryz.ntmps50
  go_wp2_with fail
  refine (bstate_any b B _ _ _ _ HB.out).mono ?_
  rintro e w2 ⟨rfl, hb2⟩
  have hb3 := below_alloc w2 (stO b.now (.slice ad b.now.slots.length cap) (.slice ad2 b.now.ends.length cap2))
  have HB3 : Hid (BoxIn (w2.alloc (stO b.now (.slice ad b.now.slots.length cap) (.slice ad2 b.now.ends.length cap2))) B b (.slice ad b.now.slots.length cap) (.slice ad2 b.now.ends.length cap2) tk) := (HB.out.later hb2).later hb3
  have HG3 : Hid (Below w.heap.size w (w2.alloc (stO b.now (.slice ad b.now.slots.length cap) (.slice ad2 b.now.ends.length cap2)))) := hb2.trans (hb3.mono hb2.size)
  have HI : Hid (StIn (w2.alloc (stO b.now (.slice ad b.now.slots.length cap) (.slice ad2 b.now.ends.length cap2))) w2.heap.size b.now (.slice ad b.now.slots.length cap) (.slice ad2 b.now.ends.length cap2)) := StIn.new w2 b.now _ _
  go_upto_region 2 with fail
  generalize w2.alloc (stO b.now (.slice ad b.now.slots.length cap) (.slice ad2 b.now.ends.length cap2)) = W at *
  generalize w2.heap.size = sq at *
  clear hb2 hb3 HB
  obtain ⟨d0, d1, d2, d3, d4⟩ := HI.out
  go_wp2_with fail
  refine (find_any b.now n _ _ _ (by omega) HB3.out.rows).mono ?_
  rintro e w4 ⟨rfl, hb4⟩
  have HB4 : Hid (BoxIn w4 B b (.slice ad b.now.slots.length cap) (.slice ad2 b.now.ends.length cap2) tk) := HB3.out.later hb4
  have HG4 : Hid (Below w.heap.size w w4) := HG3.out.trans (hb4.mono HG3.out.size)
  clear d0 d1 d2 d3 d4 HB3 HI HG3 hb4
  by_cases hneg : Bx.find b.now n < 0
  · have HP' : Hid (cancelP b n = (b, 8)) := by unfold Hid; rw [HP.out, if_pos hneg]
    go_wp2_with fail
    go_ret
    rw [HP'.out]
    exact ⟨⟨_, _, _, rfl, HB4.out, Or.inl rfl⟩, grow_of_below HG4.out _⟩
  rw [if_neg hneg] at HP
  have hnum : 1 ≤ n ∧ n < 10000 := by
    have h1 := find_num hneg
    have h2 := HO.out.st.each _ (Bx.slAt_mem (Bx.find_lt b.now n hneg))
    have h3 := HO.out.st.n2
    rw [h1] at h2; omega
  have hb5 := below_alloc w4 (chO (chK n))
  have hR5 := ch_row w4 (chK n)
  have hB5 := HB4.out.later hb5
  have HG5 : Hid (w.grownBy (w4.alloc (chO (chK n))) (some B)) := grow_of_below (HG4.out.trans (hb5.mono HG4.out.size)) _
  have hCk : ∀ c ∈ [chK n], ChOk c := by intro c hc; simp at hc; subst hc; exact chN_ok (by decide) (by decide) (by omega) (by omega)
  generalize Bx.find b.now n = F at *
  by_cases hF : b.room < (b.text.size : Int) + (Bx.frames [chK n]).size
  · have HP' : Hid (cancelP b n = (b, 13)) := by unfold Hid; rw [HP.out, if_pos hF]
    go_wp2_with fail
    refine (add_no b B _ _ _ _ [chK n] _ (by simp) hCk HO.out.txt hF hR5 hB5).mono ?_
    rintro e w8 ⟨rfl, hb8⟩
    go_wp2_with fail
    go_ret
    rw [HP'.out]
    exact ⟨⟨_, _, _, rfl, hB5.later hb8, Or.inl rfl⟩, grow_trans HG5.out (grow_of_below hb8 _)⟩
  · have HP' : Hid (cancelP b n = ({ addB b [chK n] with talks := hushL (Bx.told b.now [chK n]) b.talks }, 0)) := by unfold Hid; rw [HP.out, if_neg hF]
    go_wp2_with fail
    refine (add_yes b B _ _ _ _ [chK n] _ HO.out.st (by simp) hCk HO.out.txt (by omega) hR5 hB5).mono ?_
    rintro e w8 ⟨rfl, ⟨sl8, en8, hB8⟩, hg8⟩
    have hsl8 : (Bx.told b.now [chK n]).slots.length ≤ 8 := (Bx.told_ok HO.out.st _).sl
    go_wp2_with fail
    refine (hush_any (addB b [chK n]) B _ _ _ _ (by show (Bx.told b.now [chK n]).slots.length ≤ 10000; omega) (by show b.talks.length ≤ 1000; omega) hB8).mono ?_
    rintro e w9 ⟨rfl, ⟨tk9, hB9, hn9⟩, hg9⟩
    go_wp2_with fail
    go_ret
    rw [HP'.out]
    exact ⟨⟨_, _, _, rfl, hB9, hn9.grow (grow_trans HG5.out hg8).size⟩, grow_trans (grow_trans HG5.out hg8) hg9⟩
end Go.Proofs.YtdajolpoiffimaaGreatDoor

namespace Go.Proofs.YtdajolpoiffimaaGreatDoor
open Go.RowKit

set_option maxRecDepth 10000 in
set_option maxHeartbeats 2000000 in
theorem refused_any (b : Bx.Bo) (B : Nat) (F : Int) (sl en tk : Value) (w : World) (hO : BoOk b) (hF1 : -1 ≤ F) (hF2 : F < b.now.slots.length) (hB : BoxIn w B b sl en tk) :
    Calls Tryz.prog 138 #[.pointer (some ⟨B, 0, none⟩), stV b.now sl en, .int .i64 F] w fun e w' => e = .returned (.int .i64 (refusedP b F)) ∧ Below w.heap.size w w' := by
  obtain ⟨ad, cap, rfl, hcap⟩ := hB.rows.sl.form
  obtain ⟨ad2, cap2, rfl, hcap2⟩ := hB.rows.en.form
  have HB : Hid (BoxIn w B b (.slice ad b.now.slots.length cap) (.slice ad2 b.now.ends.length cap2) tk) := hB
  have HO : Hid (BoOk b) := hO
  have hs8 := hO.st.sl
  have HP : Hid (refusedP b F = if F < 0 then 8 else if (Bx.slAt b.now F.toNat).runs = true then 9 else if b.now.clock < (Bx.slAt b.now F.toNat).frm then 10
    else if Bx.locked b.now F.toNat = true then 11 else if b.limit ≤ (Bx.running b.now : Int) then 12 else 0) := rfl
  have hb0 := below_alloc w (stO b.now (.slice ad b.now.slots.length cap) (.slice ad2 b.now.ends.length cap2))
  have HI : Hid (StIn (w.alloc (stO b.now (.slice ad b.now.slots.length cap) (.slice ad2 b.now.ends.length cap2))) w.heap.size b.now (.slice ad b.now.slots.length cap) (.slice ad2 b.now.ends.length cap2)) := StIn.new w b.now _ _
  have HB1 : Hid (BoxIn (w.alloc (stO b.now (.slice ad b.now.slots.length cap) (.slice ad2 b.now.ends.length cap2))) B b (.slice ad b.now.slots.length cap) (.slice ad2 b.now.ends.length cap2) tk) := HB.out.later hb0
  have HG1 : Hid (Below w.heap.size w (w.alloc (stO b.now (.slice ad b.now.slots.length cap) (.slice ad2 b.now.ends.length cap2)))) := hb0
  clear hB hO hb0 HB
  go_enter Tryz.func138, Tryz.ntmps138
  go_upto_region 1 with fail
  generalize w.alloc (stO b.now (.slice ad b.now.slots.length cap) (.slice ad2 b.now.ends.length cap2)) = W at *
  by_cases hneg : F < 0
  · have HP' : Hid (refusedP b F = 8) := by unfold Hid; rw [HP.out, if_pos hneg]
    go_wp2_with fail
    go_ret
    exact ⟨ret_int HP'.out.symm, HG1.out⟩
  rw [if_neg hneg] at HP
  obtain ⟨i, hiF⟩ : ∃ i : Nat, F = i := Int.eq_ofNat_of_zero_le (by omega)
  subst hiF
  simp only [Int.toNat_natCast] at HP
  have hi : i < b.now.slots.length := by omega
  have hSx := HO.out.st.each _ (Bx.slAt_mem hi)
  obtain ⟨j, hjj⟩ : ∃ j : Nat, (Bx.slAt b.now i).line = (j : Int) + 1 := ⟨((Bx.slAt b.now i).line - 1).toNat, by omega⟩
  have Hln : Hid ((Bx.slAt b.now i).line = (j : Int) + 1) := hjj
  have hj : j < tn b.now.tab := by omega
  clear hSx hjj
  have z1 : (0 : Int) ≤ (i : Int) := by omega
  have z2 : (i : Int) < (b.now.slots.length : Int) := by omega
  have z3 : ¬ (i : Int) < 0 := by omega
  obtain ⟨b5, off5, cap5, hv5, _, hc5⟩ := HB1.out.rows.sl.1.some' (by omega)
  cases hv5
  obtain ⟨y0, y1, y2, y3, y4, y5⟩ := slot_cells hc5 i hi
  rw [slAt_eq b.now i hi] at y0 y1 y2 y3 y4 y5
  obtain ⟨d0, d1, d2, d3, d4⟩ := HI.out
  clear hc5 hneg hF1 hF2 y0 y1 y2 y3
  have HSl : Hid (Bx.slAt b.now i = Bx.slAt b.now i) := rfl
  cases hr : (Bx.slAt b.now i).runs
  · rw [hr] at y5
    rw [if_neg (by rw [hr]; simp)] at HP
    clear hr
    by_cases hf : b.now.clock < (Bx.slAt b.now i).frm
    · have HP' : Hid (refusedP b i = 10) := by unfold Hid; rw [HP.out, if_pos hf]
      generalize (Bx.slAt b.now i).frm = fr at *
      go_wp2_with fail
      go_quiet (fail)
      go_wp2_with fail
      go_ret
      exact ⟨ret_int HP'.out.symm, below_drewN HG1.out _⟩
    · rw [if_neg hf] at HP
      go_wp2_with fail
      go_quiet (fail)
      go_wp2_with fail
      refine (locked_any b.now i j _ _ _ HO.out.st.tab (by omega) hi Hln.out hj (HB1.out.rows.later (below_drewN (Below.refl _ _) nq))).mono ?_
      rintro e w3 ⟨rfl, hb3⟩
      have hbX : Below W.heap.size W w3 := (below_drewN (Below.refl _ _) nq).trans hb3
      have HB3 : Hid (BoxIn w3 B b (.slice (some ⟨b5, off5, none⟩) b.now.slots.length cap) (.slice ad2 b.now.ends.length cap2) tk) := HB1.out.later hbX
      have HI3 : Hid (StIn w3 w.heap.size b.now (.slice (some ⟨b5, off5, none⟩) b.now.slots.length cap) (.slice ad2 b.now.ends.length cap2)) := HI.out.later hbX
      have HG3 : Hid (Below w.heap.size w w3) := HG1.out.trans (hbX.mono HG1.out.size)
      clear d0 d1 d2 d3 d4 y4 y5 hbX hb3
      obtain ⟨d0, d1, d2, d3, d4⟩ := HI3.out
      go_wp2_with fail
      refine (rrunning_any b.now _ _ _ (by omega) HB3.out.rows).mono ?_
      rintro e w4 ⟨rfl, hb4⟩
      have HG4 : Hid (Below w.heap.size w w4) := HG3.out.trans (hb4.mono HG3.out.size)
      have c0 := (HB3.out.later hb4).c0
      clear d0 d1 d2 d3 d4 HB3 HI3 HG3 hb4
      by_cases hlk : Bx.locked b.now i = true
      · have HP' : Hid (refusedP b i = 11) := by unfold Hid; rw [HP.out, if_pos hlk]
        go_wp2_with fail
        go_ret
        exact ⟨ret_int HP'.out.symm, HG4.out⟩
      · have hlk' : Bx.locked b.now i = false := by simpa using hlk
        rw [if_neg hlk] at HP
        clear hlk
        by_cases hlim : b.limit ≤ (Bx.running b.now : Int)
        · have HP' : Hid (refusedP b i = 12) := by unfold Hid; rw [HP.out, if_pos hlim]
          go_wp2_with fail
          go_ret
          exact ⟨ret_int HP'.out.symm, HG4.out⟩
        · have HP' : Hid (refusedP b i = 0) := by unfold Hid; rw [HP.out, if_neg hlim]
          go_wp2_with fail
          go_ret
          exact ⟨ret_int HP'.out.symm, HG4.out⟩
  · rw [hr] at y5
    have HP' : Hid (refusedP b i = 9) := by unfold Hid; rw [HP.out, if_pos hr]
    clear hr
    go_wp2_with fail
    go_ret
    exact ⟨ret_int HP'.out.symm, HG1.out⟩
end Go.Proofs.YtdajolpoiffimaaGreatDoor

namespace Go.Proofs.YtdajolpoiffimaaGreatDoor
open Go.RowKit

/-- Nothing that was there is changed, but for two blocks. -/
structure TwoBy (w w' : World) (B : Nat) (r : Option Nat) : Prop where
  os : w'.os = w.os
  tape : w'.tape = w.tape
  output : w'.output = w.output
  size : w.heap.size ≤ w'.heap.size
  block : ∀ k, k < w.heap.size → k ≠ B → some k ≠ r → w'.heap[k]? = w.heap[k]?
theorem TwoBy.of_grow {w w' : World} {B : Nat} (h : w.grownBy w' (some B)) (r : Option Nat) : TwoBy w w' B r :=
  ⟨h.os, h.tape, h.output, h.size, fun k hk hn _ => h.block k hk (by simpa using hn)⟩
theorem TwoBy.of_grow2 {w w' : World} {r : Option Nat} (h : w.grownBy w' r) (B : Nat) : TwoBy w w' B r :=
  ⟨h.os, h.tape, h.output, h.size, fun k hk _ hn => h.block k hk hn⟩
theorem TwoBy.trans {w w1 w2 : World} {B : Nat} {r : Option Nat} (h1 : TwoBy w w1 B r) (h2 : TwoBy w1 w2 B r) : TwoBy w w2 B r :=
  ⟨h2.os.trans h1.os, h2.tape.trans h1.tape, h2.output.trans h1.output, Nat.le_trans h1.size h2.size, fun k hk hn hr => (h2.block k (Nat.lt_of_lt_of_le hk h1.size) hn hr).trans (h1.block k hk hn hr)⟩
/-- The talks' row has grown, and the box has it. -/
theorem BoxIn.grew {w w' : World} {B : Nat} {b : Bx.Bo} {sl en tk tk' : Value} {l : List Bx.Tk} (h : BoxIn w B b sl en tk) (hg : w.grownBy w' tk.ownBlock) (ho : w'.ownsRow (B + 1) 172 4 tk' l.length (l.flatMap tkC)) :
    BoxIn (w'.setCell ⟨B, 8, none⟩ tk') B { b with talks := l } sl en tk' := by
  have hlt := h.ty.lt
  have hne : some B ≠ tk.ownBlock := by
    intro e
    have := (h.tk.lt B e.symm).1
    omega
  have hB : w'.heap[B]? = w.heap[B]? := hg.block B hlt hne
  obtain ⟨c0, c1, c2, c3, c4, c5, c6, c7, c8, f, ty, rows, tko⟩ := h
  have cc : ∀ j u, w.cell? ⟨B, j, none⟩ = some u → w'.cell? ⟨B, j, none⟩ = some u := fun j u hu => hg.cell hu hne
  have ff : ∀ j, j < 9 → w'.frozen? ⟨B, j, none⟩ = false := fun j hj => (World.frozen?_of_block (a := ⟨B, j, none⟩) hB).trans (f j hj)
  have ty' : Typed w' B 115 := by obtain ⟨cur, fr, ht⟩ := ty; exact ⟨cur, fr, hB.trans ht⟩
  have d0 := cc _ _ c0; have d1 := cc _ _ c1; have d2 := cc _ _ c2; have d3 := cc _ _ c3; have d4 := cc _ _ c4; have d5 := cc _ _ c5; have d6 := cc _ _ c6; have d7 := cc _ _ c7; have d8 := cc _ _ c8
  refine ⟨?_, ?_, ?_, ?_, ?_, ?_, ?_, ?_, ?_, fun j hj => ?_, ty'.setCell _ _ _, ⟨(rows.sl.grown tko hg (by decide)).set ty' (by decide) _ _, (rows.en.grown tko hg (by decide)).set ty' (by decide) _ _⟩, ownsRow_setCell_below ho (by simp) _⟩
  case refine_10 => simp [go_sem, ff j hj]
  all_goals simp [go_sem, d0, d1, d2, d3, d4, d5, d6, d7, d8]

theorem says_at (L : List ByteArray) (v : Value) (a : Int) (w : World) (ha : a = 0) (hL : L.length ≤ 100) (hs : ∀ s ∈ L, 2 ≤ s.size ∧ s.size ≤ 9) (hR : RowAt w v L.length (L.map Value.string)) :
    Calls Tryz.prog 140 #[v, .int .i64 a] w fun e w' => e = .returned (.tuple #[.string (saysL L).1, .int .i64 ((saysL L).2 : Nat)]) ∧ w' = w := by
  subst ha
  have := says_any L v L.length 0 w (by omega) hL hs hR
  simpa using this
set_option maxRecDepth 10000 in
set_option maxHeartbeats 3000000 in
theorem rstart_any (b : Bx.Bo) (B : Nat) (n : Int) (sl en tk : Value) (w : World) (hO : BoOk b) (hB : BoxIn w B b sl en tk) :
    Calls Tryz.prog 92 #[.pointer (some ⟨B, 0, none⟩), .int .i64 n] w fun e w' => (∃ sl' en' tk', e = .returned (.tuple #[.string (startP b n).2.1, .int .i64 (startP b n).2.2]) ∧ BoxIn w' B (startP b n).1 sl' en' tk' ∧ NewTk w tk tk') ∧ TwoBy w w' B tk.ownBlock := by
  obtain ⟨i0, hi0, hz0, hz1, hz2⟩ := info_parts infoCh
  obtain ⟨j0, hj0, hy0, hy1, hy2⟩ := info_parts infoTalk
  obtain ⟨ad, cap, rfl, hcap⟩ := hB.rows.sl.form
  obtain ⟨ad2, cap2, rfl, hcap2⟩ := hB.rows.en.form
  obtain ⟨ad3, cap3, rfl, hcap3⟩ := hB.tkr.form
  have HB : Hid (BoxIn w B b (.slice ad b.now.slots.length cap) (.slice ad2 b.now.ends.length cap2) (.slice ad3 b.talks.length cap3)) := hB
  have HO : Hid (BoOk b) := hO
  have hs8 := hO.st.sl
  have ht100 := hO.tks
  have HP : Hid (startP b n = if ¬ refusedP b (Bx.find b.now n) = 0 then (b, ByteArray.empty, refusedP b (Bx.find b.now n))
    else if b.room < (b.text.size : Int) + (Bx.frames (startC (startL b n) n)).size then (b, ByteArray.empty, 13)
    else ({ addB b (startC (startL b n) n) with talks := if (saysL (startL b n)).2 < (startL b n).length then b.talks ++ [⟨n, ((saysL (startL b n)).2 : Nat), b.now.clock, { data := #[] }⟩] else b.talks }, (saysL (startL b n)).1, 0)) := rfl
  clear hB hO
  go_enter Tryz.func92, Tryz.ntmps92
  go_wp2_with fail
  refine (bstate_any b B _ _ _ _ HB.out).mono ?_
  rintro e w2 ⟨rfl, hb2⟩
  have hb3 := below_alloc w2 (stO b.now (.slice ad b.now.slots.length cap) (.slice ad2 b.now.ends.length cap2))
  have HB3 : Hid (BoxIn (w2.alloc (stO b.now (.slice ad b.now.slots.length cap) (.slice ad2 b.now.ends.length cap2))) B b (.slice ad b.now.slots.length cap) (.slice ad2 b.now.ends.length cap2) (.slice ad3 b.talks.length cap3)) := (HB.out.later hb2).later hb3
  have HG3 : Hid (Below w.heap.size w (w2.alloc (stO b.now (.slice ad b.now.slots.length cap) (.slice ad2 b.now.ends.length cap2)))) := hb2.trans (hb3.mono hb2.size)
  have HI : Hid (StIn (w2.alloc (stO b.now (.slice ad b.now.slots.length cap) (.slice ad2 b.now.ends.length cap2))) w2.heap.size b.now (.slice ad b.now.slots.length cap) (.slice ad2 b.now.ends.length cap2)) := StIn.new w2 b.now _ _
  have hTs : Hid (Typed (w2.alloc (stO b.now (.slice ad b.now.slots.length cap) (.slice ad2 b.now.ends.length cap2))) w2.heap.size 104) := Typed.new _ _ _
  go_upto_region 2 with fail
  generalize w2.alloc (stO b.now (.slice ad b.now.slots.length cap) (.slice ad2 b.now.ends.length cap2)) = W at *
  generalize w2.heap.size = sq at *
  clear hb2 hb3 HB
  obtain ⟨d0, d1, d2, d3, d4⟩ := HI.out
  go_wp2_with fail
  refine (find_any b.now n _ _ _ (by omega) HB3.out.rows).mono ?_
  rintro e w4 ⟨rfl, hb4⟩
  have HB4 : Hid (BoxIn w4 B b (.slice ad b.now.slots.length cap) (.slice ad2 b.now.ends.length cap2) (.slice ad3 b.talks.length cap3)) := HB3.out.later hb4
  have HI4 : Hid (StIn w4 sq b.now (.slice ad b.now.slots.length cap) (.slice ad2 b.now.ends.length cap2)) := HI.out.later hb4
  have HG4 : Hid (Below w.heap.size w w4) := HG3.out.trans (hb4.mono HG3.out.size)
  have HT4 : Hid (Typed w4 sq 104) := hTs.out.later hb4
  clear d0 d1 d2 d3 d4 HB3 HI HG3 hb4 hTs
  have hfb := find_bd b.now n
  obtain ⟨d0, d1, d2, d3, d4⟩ := HI4.out
  go_wp2_with fail
  refine (refused_any b B (Bx.find b.now n) _ _ _ _ HO.out hfb.1 hfb.2 HB4.out).mono ?_
  rintro e w5 ⟨rfl, hb5⟩
  have HB5 : Hid (BoxIn w5 B b (.slice ad b.now.slots.length cap) (.slice ad2 b.now.ends.length cap2) (.slice ad3 b.talks.length cap3)) := HB4.out.later hb5
  have HI5 : Hid (StIn w5 sq b.now (.slice ad b.now.slots.length cap) (.slice ad2 b.now.ends.length cap2)) := HI4.out.later hb5
  have HG5 : Hid (Below w.heap.size w w5) := HG4.out.trans (hb5.mono HG4.out.size)
  have HT5 : Hid (Typed w5 sq 104) := HT4.out.later hb5
  clear d0 d1 d2 d3 d4 HB4 HI4 HG4 hb5 HT4
  by_cases href : refusedP b (Bx.find b.now n) = 0
  · have hnn : ¬ Bx.find b.now n < 0 := by
      intro h
      unfold refusedP at href; rw [if_pos h] at href; cases href
    rw [if_neg (by simpa using href)] at HP
    have hi := Bx.find_lt b.now n hnn
    have hnum := find_num hnn
    have hSx := HO.out.st.each _ (Bx.slAt_mem hi)
    have hn2 := HO.out.st.n2
    obtain ⟨j, hjj⟩ : ∃ j : Nat, (Bx.slAt b.now (Bx.find b.now n).toNat).line = (j : Int) + 1 := ⟨((Bx.slAt b.now (Bx.find b.now n).toNat).line - 1).toNat, by omega⟩
    have Hln : Hid ((Bx.slAt b.now (Bx.find b.now n).toNat).line = (j : Int) + 1) := hjj
    have hj : j < tn b.now.tab := by omega
    have HL : Hid (startL b n = stepsS b.now j) := by unfold Hid startL; rw [hjj, show ((j : Int) + 1 - 1).toNat = j by omega]
    have hnb : 1 ≤ n ∧ n < 10000 := by rw [hnum] at hSx; omega
    clear hSx hjj hnum
    obtain ⟨i, hiF⟩ : ∃ i : Nat, Bx.find b.now n = i := Int.eq_ofNat_of_zero_le (by omega)
    rw [hiF] at hi Hln href ⊢
    simp only [Int.toNat_natCast] at hi Hln
    have hrf0 : refusedP b i = 0 := href
    clear hfb hnn hiF href
    obtain ⟨d0, d1, d2, d3, d4⟩ := HI5.out
    go_wp2_with fail
    refine (bsteps_any b.now i j _ _ _ _ HO.out.st.tab hi (by omega) Hln.out hj HB5.out.rows).mono ?_
    rintro e w6 ⟨⟨v6, rfl, hR6⟩, hb6⟩
    obtain ⟨ad6, cap6, rfl, _⟩ := hR6.form
    have HB6 : Hid (BoxIn w6 B b (.slice ad b.now.slots.length cap) (.slice ad2 b.now.ends.length cap2) (.slice ad3 b.talks.length cap3)) := HB5.out.later hb6
    have HI6 : Hid (StIn w6 sq b.now (.slice ad b.now.slots.length cap) (.slice ad2 b.now.ends.length cap2)) := HI5.out.later hb6
    have HG6 : Hid (Below w.heap.size w w6) := HG5.out.trans (hb6.mono HG5.out.size)
    have HT6 : Hid (Typed w6 sq 104) := HT5.out.later hb6
    have hLP := HO.out.st.tab.lines.2.2 j hj
    have hst := step_sz hLP
    have hsl := stepsOf_len hLP
    change ∀ s ∈ stepsS b.now j, 2 ≤ s.size ∧ s.size ≤ 9 at hst
    change 1 ≤ (stepsS b.now j).length ∧ (stepsS b.now j).length ≤ 5 at hsl
    rw [HL.out] at HP
    have hsn := (saysL_size (stepsS b.now j) (fun s h => (hst s h).2)).2
    clear d0 d1 d2 d3 d4 HB5 HI5 HG5 hb6 HT5 hLP
    go_wp2_with fail
    refine (says_at (stepsS b.now j) _ _ _ rfl (by omega) hst hR6).mono ?_
    rintro e w7 ⟨rfl, hw7⟩
    subst hw7
    clear hst hR6 HL
    generalize stepsS b.now j = L at *
    generalize hRR : saysL L = R at *
    have HC : Hid (startC L n = if R.2 = L.length then [chS n] ++ [chD n] else [chS n]) := by unfold Hid startC; rw [hRR]
    clear hRR
    have hbS := below_alloc w7 (.cells #[.int .u8 83, .string { data := #[] }, .int .i64 n] 141)
    have HB8 : Hid (BoxIn (w7.alloc (.cells #[.int .u8 83, .string { data := #[] }, .int .i64 n] 141)) B b (.slice ad b.now.slots.length cap) (.slice ad2 b.now.ends.length cap2) (.slice ad3 b.talks.length cap3)) := HB6.out.later hbS
    have HG8 : Hid (Below w.heap.size w (w7.alloc (.cells #[.int .u8 83, .string { data := #[] }, .int .i64 n] 141))) := HG6.out.trans (hbS.mono HG6.out.size)
    have HI8 : Hid (StIn (w7.alloc (.cells #[.int .u8 83, .string { data := #[] }, .int .i64 n] 141)) sq b.now (.slice ad b.now.slots.length cap) (.slice ad2 b.now.ends.length cap2)) := HI6.out.later hbS
    have HOw : Hid ((w7.alloc (.cells #[.int .u8 83, .string { data := #[] }, .int .i64 n] 141)).ownsRow w7.heap.size 141 3 (.slice (some ⟨w7.heap.size, 0, none⟩) 1 1) [chS n].length ([chS n].flatMap chC)) := ch_own w7 (chS n)
    have hz7 : w7.heap.size ≤ (w7.alloc (.cells #[.int .u8 83, .string { data := #[] }, .int .i64 n] 141)).heap.size := by simp
    go_upto_region 9 with fail
    generalize w7.alloc (.cells #[.int .u8 83, .string { data := #[] }, .int .i64 n] 141) = W8 at *
    have hsq : Hid (¬ sq = B) := by
      intro e
      obtain ⟨_, _, t1⟩ := HT6.out
      obtain ⟨_, _, t2⟩ := HB6.out.ty
      rw [e, t2] at t1; cases t1
    generalize hq8 : w7.heap.size = q8 at *
    have Hq8 : Hid (w7.heap.size = q8) := hq8
    clear hq8
    by_cases hto : R.2 = L.length
    · rw [if_pos hto] at HC
      rw [HC.out] at HP
      have z1 : (((R.2 : Nat) : Int) == (L.length : Int)) = true := by simp [hto]
      have z2 : ¬ ((R.2 : Nat) : Int) < (L.length : Int) := by omega
      have hnlt : ¬ R.2 < L.length := by omega
      rw [if_neg hnlt] at HP
      have hCk : ∀ c ∈ [chS n] ++ [chD n], ChOk c := by
        intro c hc; simp at hc
        rcases hc with rfl | rfl
        · exact chN_ok (by decide) (by decide) (by omega) (by omega)
        · exact chN_ok (by decide) (by decide) (by omega) (by omega)
      clear hto hnlt HC
      have hown := HOw.out
      go_wp2_with (at_builtin; refine wpList_append_lies _ rfl (.tmp 42) (.tmp 45) 142 rfl q8 141 i0 (.agg #[.int .u8 0, .string ByteArray.empty, .int .i64 0]) 3 32 Tryz.underlying142 hi0 hz0 hz1 hz2 rfl (by decide) _ _ _ rfl (hown.alloc _) ⟨W8.heap.size, 0, none⟩ 1 1 (chC (chD n)) rfl rfl (chC_newA _ (chD n) _) (chC_one (chD n)) (by decide) ?c3 ?c4 ?c5 _ rfl ?_)
      case c3 => unfold maxLen; simp
      case c5 => first | omega | exact le_alloc hz7 _
      · intro g cap1 w9 hown' hgrow _ hlt'
        have hbX : Below q8 W8 w9 := ((Below.refl q8 W8).alloc (by omega) _).grown hgrow (by simp; omega) (fun k' e => (hown.lt k' e).1)
        have hbY : Below w7.heap.size w7 w9 := by rw [Hq8.out]; exact hbS.trans hbX
        have HB9 : Hid (BoxIn w9 B b (.slice ad b.now.slots.length cap) (.slice ad2 b.now.ends.length cap2) (.slice ad3 b.talks.length cap3)) := HB6.out.later hbY
        have HG9 : Hid (Below w.heap.size w w9) := HG6.out.trans (hbY.mono HG6.out.size)
        have hR9 : TRow w9 141 (.slice (some ⟨g, 0, none⟩) ([chS n].length + 1) cap1) ([chS n] ++ [chD n]).length (([chS n] ++ [chD n]).flatMap chC) := TRow.of_own (by simpa using hown')
        clear hown' hgrow hown hbX hbY HB8 HG8 HI8 HOw hbS HB6 HG6 HI6
        by_cases hF : b.room < (b.text.size : Int) + (Bx.frames ([chS n] ++ [chD n])).size
        · have HP' : Hid (startP b n = (b, ByteArray.empty, 13)) := by unfold Hid; rw [HP.out, if_pos hF]
          go_wp2_with fail
          refine (add_no b B _ _ _ _ ([chS n] ++ [chD n]) _ (by simp) hCk HO.out.txt hF hR9 HB9.out).mono ?_
          rintro e w8 ⟨rfl, hb8⟩
          go_wp2_with fail
          go_ret2
          rw [HP'.out]
          exact ⟨⟨_, _, _, rfl, HB9.out.later hb8, Or.inl rfl⟩, TwoBy.of_grow (grow_of_below (HG9.out.trans (hb8.mono HG9.out.size)) _) _⟩
        · have HP' : Hid (startP b n = (addB b ([chS n] ++ [chD n]), R.1, 0)) := by unfold Hid; rw [HP.out, if_neg hF]; rfl
          go_wp2_with fail
          refine (add_yes b B _ _ _ _ ([chS n] ++ [chD n]) _ HO.out.st (by simp) hCk HO.out.txt (by omega) hR9 HB9.out).mono ?_
          rintro e w10 ⟨rfl, ⟨sl9, en9, hB9⟩, hg9⟩
          go_wp2_with fail
          go_ret2
          rw [HP'.out]
          exact ⟨⟨_, _, _, rfl, hB9, Or.inl rfl⟩, TwoBy.of_grow (grow_trans (grow_of_below HG9.out _) hg9) _⟩
    · rw [if_neg hto] at HC
      rw [HC.out] at HP
      have z1 : (((R.2 : Nat) : Int) == (L.length : Int)) = false := by simp; omega
      have z2 : ((R.2 : Nat) : Int) < (L.length : Int) := by omega
      have hylt : R.2 < L.length := by omega
      rw [if_pos hylt] at HP
      have hCk : ∀ c ∈ [chS n], ChOk c := by
        intro c hc; simp at hc; subst hc
        exact chN_ok (by decide) (by decide) (by omega) (by omega)
      have hR9 : TRow W8 141 (.slice (some ⟨q8, 0, none⟩) 1 1) [chS n].length ([chS n].flatMap chC) := TRow.of_own HOw.out
      clear hto hylt HC
      by_cases hF : b.room < (b.text.size : Int) + (Bx.frames [chS n]).size
      · have HP' : Hid (startP b n = (b, ByteArray.empty, 13)) := by unfold Hid; rw [HP.out, if_pos hF]
        go_wp2_with fail
        refine (add_no b B _ _ _ _ [chS n] _ (by simp) hCk HO.out.txt hF hR9 HB8.out).mono ?_
        rintro e w8 ⟨rfl, hb8⟩
        go_wp2_with fail
        go_ret2
        rw [HP'.out]
        exact ⟨⟨_, _, _, rfl, HB8.out.later hb8, Or.inl rfl⟩, TwoBy.of_grow (grow_of_below (HG8.out.trans (hb8.mono HG8.out.size)) _) _⟩
      · have HP' : Hid (startP b n = ({ addB b [chS n] with talks := b.talks ++ [⟨n, ((R.2 : Nat) : Int), b.now.clock, { data := #[] }⟩] }, R.1, 0)) := by unfold Hid; rw [HP.out, if_neg hF]
        go_wp2_with fail
        refine (add_yes b B _ _ _ _ [chS n] _ HO.out.st (by simp) hCk HO.out.txt (by omega) hR9 HB8.out).mono ?_
        rintro e w9 ⟨rfl, ⟨sl9, en9, hB9⟩, hg9⟩
        have d1 : w9.cell? ⟨sq, 1, none⟩ = some (.int .i64 b.now.clock) := hg9.cell HI8.out.c1 (by have := hsq.out; simpa using this)
        have HB9 : Hid (BoxIn w9 B (addB b [chS n]) sl9 en9 (.slice ad3 b.talks.length cap3)) := hB9
        have HT9 : Hid (TwoBy w w9 B (Value.slice ad3 b.talks.length cap3).ownBlock) := TwoBy.of_grow (grow_trans (grow_of_below HG8.out _) hg9) _
        have c8 := hB9.c8
        have f8 := hB9.f 8 (by decide)
        have hlB : B < w9.heap.size := hB9.ty.lt
        have hls : sq < w9.heap.size := World.block_lt_of_cell? _ _ d1
        have hown9 := hB9.tk
        have a63 : b.talks.length + 1 ≤ maxLen := by unfold maxLen; omega
        have a40 : (b.talks.length + 1) * 40 ≤ 140737488355328 := by omega
        have hne : some B ≠ (Value.slice ad3 b.talks.length cap3).ownBlock := by
          intro e
          have := (hown9.lt B e.symm).1
          omega
        clear hB9 hg9 HB8 HG8 HI8 HOw hbS HB6 HG6 HI6 hR9
        go_wp2_with fail
        go_region_law ((refine step_append_lies _ rfl (.tmp 60) (.tmp 66) 113 rfl (B + 1) 172 j0 (.agg #[.int .i64 0, .int .i64 0, .int .i64 0, .string ByteArray.empty]) 4 40 Tryz.underlying113 hj0 hy0 hy1 hy2 rfl (by decide) (.slice ad3 b.talks.length cap3) _ _ rfl (World.ownsRow.drew (hown9.alloc _)) ⟨w9.heap.size, 0, none⟩ 1 1 (tkC ⟨n, ((R.2 : Nat) : Int), b.now.clock, { data := #[] }⟩) rfl rfl (fun j u hj => tkC_new w9 ⟨n, ((R.2 : Nat) : Int), b.now.clock, { data := #[] }⟩ _ j u hj) (tkC_one _) (by decide) a63 a40 (by show B + 1 ≤ (w9.alloc _).heap.size; simp; omega) _ rfl ?_; intro g cap1 w10 hown10 hgrow10 hwh hlt10; have HWh : Hid ((Value.slice ad3 b.talks.length cap3).ownBlock = some g ∨ w9.heap.size ≤ g) := hwh.imp id (fun e => by rw [e]; exact le_alloc (Nat.le_refl _) _); clear hwh; have e8 : w10.cell? ⟨B, 8, none⟩ = some (.slice ad3 b.talks.length cap3) := hgrow10.cell (a := ⟨B, 8, none⟩) (cell_later (below_alloc w9 _).drew c8) hne; have g8 : w10.frozen? ⟨B, 8, none⟩ = false := (hgrow10.frozen_far ⟨B, 8, none⟩ (Nat.lt_of_lt_of_le hlB (le_alloc (Nat.le_refl _) _)) hne).trans (((below_alloc w9 _).drew.frozen (p := ⟨B, 8, none⟩) hlB).trans f8)))
        all_goals
          have HN : Hid (BoxIn _ B { addB b [chS n] with talks := b.talks ++ [⟨n, ((R.2 : Nat) : Int), b.now.clock, { data := #[] }⟩] } sl9 en9 (.slice (some ⟨g, 0, none⟩) (b.talks.length + 1) cap1)) := BoxIn.grew (HB9.out.later (below_alloc w9 _).drew) hgrow10 (by simpa using hown10)
          have HTw : Hid (TwoBy w w10 B (Value.slice ad3 b.talks.length cap3).ownBlock) := (HT9.out.trans (TwoBy.of_grow (grow_of_below (below_alloc w9 _).drew _) _)).trans (TwoBy.of_grow2 hgrow10 B)
          have HNw : Hid (NewTk w (.slice ad3 b.talks.length cap3) (.slice (some ⟨g, 0, none⟩) (b.talks.length + 1) cap1)) := HWh.out.elim (fun e => Or.inl e.symm) (fun e => Or.inr fun g' e' => by cases e'; exact Nat.le_trans HT9.out.size e)
          clear hown10 hgrow10
          go_wp2_with fail
          go_ret2
          rw [HP'.out]
          exact ⟨⟨rfl, _, _, _, HN.out, HNw.out⟩, HTw.out.trans (TwoBy.of_grow (grow_set (grow_refl _ _) _ _) _)⟩
  · have HP' : Hid (startP b n = (b, ByteArray.empty, refusedP b (Bx.find b.now n))) := by unfold Hid; rw [HP.out, if_pos href]
    have z0 : (refusedP b (Bx.find b.now n) != 0) = true := by simpa using href
    clear href
    go_wp2_with fail
    go_ret2
    rw [HP'.out]
    exact ⟨⟨_, _, _, rfl, HB5.out, Or.inl rfl⟩, TwoBy.of_grow (grow_of_below HG5.out _) _⟩
end Go.Proofs.YtdajolpoiffimaaGreatDoor
