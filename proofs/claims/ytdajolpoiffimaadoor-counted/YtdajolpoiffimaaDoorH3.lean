/-
  HearM2, HearM3.
-/
import Derived.Test.YtdajolpoiffimaaDoorH1
import Derived.Test.YtdajolpoiffimaaDoorH2

namespace Go.Proofs.YtdajolpoiffimaaDoor
namespace Hs
theorem pre_app {w t : List UInt8} (x : List UInt8) (h : w.isPrefixOf t = true) : w.isPrefixOf (t ++ x) = true := by
  rw [List.isPrefixOf_iff_prefix] at h ⊢
  exact List.IsPrefix.trans h (List.prefix_append _ _)
theorem beh_app {w : List UInt8} (x : List UInt8) : ∀ {t r : List UInt8}, behL w t = some r → behL w (t ++ x) = some (r ++ x) := by
  intro t
  induction t with
  | nil =>
    intro r h
    rw [behL] at h
    split at h
    · rename_i hw; subst hw; cases h
      cases x with
      | nil => rfl
      | cons a q => simp [behL]
    · cases h
  | cons a q ih =>
    intro r h
    cases hp : w.isPrefixOf (a :: q) with
    | true =>
      rw [behL_yes hp] at h
      cases h
      rw [behL_yes (pre_app x hp), List.drop_append_of_le_length]
      rw [List.isPrefixOf_iff_prefix] at hp
      exact hp.length_le
    | false =>
      rw [behL_no hp] at h
      have h2 := ih h
      cases hp2 : w.isPrefixOf (a :: q ++ x) with
      | true =>
        exfalso
        -- the word is found in q: it is no longer than q
        have hl : w.length ≤ q.length := by
          rcases Nat.lt_or_ge q.length w.length with c | c
          · rw [behL_short c] at h; cases h
          · exact c
        rw [List.isPrefixOf_iff_prefix] at hp2
        have : w <+: a :: q := List.prefix_of_prefix_length_le hp2 (List.prefix_append _ _) (by simp; omega)
        rw [← List.isPrefixOf_iff_prefix] at this
        rw [this] at hp; cases hp
      | false => rw [List.cons_append] at hp2 ⊢; rw [behL_no hp2]; exact h2
/-- Words are found one behind the other: how many, and what is behind the last. -/
def scan : List (List UInt8) → List UInt8 → Nat × List UInt8
  | [], r => (0, r)
  | w :: ws, r => match behL w r with | none => (0, r) | some q => ((scan ws q).1 + 1, (scan ws q).2)
theorem scan_no {w : List UInt8} {ws : List (List UInt8)} {r : List UInt8} (h : behL w r = none) : scan (w :: ws) r = (0, r) := by rw [scan, h]
theorem scan_yes {w : List UInt8} {ws : List (List UInt8)} {r q : List UInt8} (h : behL w r = some q) : scan (w :: ws) r = ((scan ws q).1 + 1, (scan ws q).2) := by rw [scan, h]
theorem scan_le (ws : List (List UInt8)) : ∀ r, (scan ws r).1 ≤ ws.length := by
  induction ws with
  | nil => intro r; simp [scan]
  | cons w ws ih =>
    intro r
    cases h : behL w r with
    | none => rw [scan_no h]; simp
    | some q => rw [scan_yes h]; have := ih q; simp; omega
theorem scan_app (x : List UInt8) (ws : List (List UInt8)) : ∀ t, (scan ws t).1 < ws.length → scan ws (t ++ x) = ((scan ws t).1 + (scan (ws.drop (scan ws t).1) ((scan ws t).2 ++ x)).1, (scan (ws.drop (scan ws t).1) ((scan ws t).2 ++ x)).2) := by
  induction ws with
  | nil => intro t h; simp [scan] at h
  | cons w ws ih =>
    intro t h
    cases hb : behL w t with
    | none => rw [scan_no hb]; simp
    | some q =>
      rw [scan_yes hb] at h ⊢
      rw [scan_yes (beh_app x hb), ih q (by simp at h; exact h)]
      simp only [List.drop_succ_cons]
      congr 1
      omega
def wYes : List UInt8 := [121, 101, 115]
def wNo : List UInt8 := [110, 111]
def wEnd : List UInt8 := [101, 110, 100]
def words : List (List UInt8) := [wYes, wNo, wEnd]
/-- The step of the talk, when k words were found. -/
def att : Nat → Nat | 0 => 1 | 1 => 2 | 2 => 4 | _ => 5
def q2 : ByteArray := ⟨#[113, 50]⟩
def L : List ByteArray := [⟨#[62, 113, 49]⟩, ⟨#[60, 121, 101, 115]⟩, ⟨#[60, 110, 111]⟩, ⟨#[62, 113, 50]⟩, ⟨#[60, 101, 110, 100]⟩]
def tk (k : Nat) (r : List UInt8) : Bx.Tk := ⟨1, (att k : Int), 7, ⟨r.toArray⟩⟩
theorem hear_step (k : Nat) (hk : k < 3) (n : Nat) (r : List UInt8) : hearF L 7 (n + 1) (tk k r) = match behL (words.getD k []) r with
    | none => (tk k r, ByteArray.empty)
    | some q => ((hearF L 7 n (tk (k + 1) q)).1, (if k = 1 then q2 else ByteArray.empty) ++ (hearF L 7 n (tk (k + 1) q)).2) := by
  have hd : (⟨r.toArray⟩ : ByteArray).data.toList = r := by simp
  have hw : ∀ (a : Nat), wordAt L a = (L.getD a ByteArray.empty).extract 1 (L.getD a ByteArray.empty).size := fun _ => rfl
  have : k = 0 ∨ k = 1 ∨ k = 2 := by omega
  rcases this with rfl | rfl | rfl
  · have e : (wordAt L 1).data.toList = wYes := by rfl
    rw [hearF]
    show (if ((5 : Nat) : Int) ≤ 1 then _ else _) = _
    rw [if_neg (by omega)]
    show (if behB ⟨r.toArray⟩ (wordAt L 1) = false then _ else _) = _
    unfold behB
    rw [e, hd]
    show _ = match behL wYes r with | none => _ | some q => _
    cases hb : behL wYes r with
    | none => rfl
    | some q =>
      have hs : behS ⟨r.toArray⟩ (wordAt L 1) = ⟨q.toArray⟩ := by unfold behS; rw [e, hd, hb]
      rw [if_neg (by simp)]
      show ((hearF L 7 n ⟨1, 2, 7, behS ⟨r.toArray⟩ (wordAt L 1)⟩).1, ByteArray.empty ++ (hearF L 7 n ⟨1, 2, 7, behS ⟨r.toArray⟩ (wordAt L 1)⟩).2) = _
      rw [hs]; rfl
  · have e : (wordAt L 2).data.toList = wNo := by rfl
    rw [hearF]
    show (if ((5 : Nat) : Int) ≤ 2 then _ else _) = _
    rw [if_neg (by omega)]
    show (if behB ⟨r.toArray⟩ (wordAt L 2) = false then _ else _) = _
    unfold behB
    rw [e, hd]
    show _ = match behL wNo r with | none => _ | some q => _
    cases hb : behL wNo r with
    | none => rfl
    | some q =>
      have hs : behS ⟨r.toArray⟩ (wordAt L 2) = ⟨q.toArray⟩ := by unfold behS; rw [e, hd, hb]
      rw [if_neg (by simp)]
      show ((hearF L 7 n ⟨1, 4, 7, behS ⟨r.toArray⟩ (wordAt L 2)⟩).1, (saysL (L.drop 3)).1 ++ (hearF L 7 n ⟨1, 4, 7, behS ⟨r.toArray⟩ (wordAt L 2)⟩).2) = _
      rw [hs]; rfl
  · have e : (wordAt L 4).data.toList = wEnd := by rfl
    rw [hearF]
    show (if ((5 : Nat) : Int) ≤ 4 then _ else _) = _
    rw [if_neg (by omega)]
    show (if behB ⟨r.toArray⟩ (wordAt L 4) = false then _ else _) = _
    unfold behB
    rw [e, hd]
    show _ = match behL wEnd r with | none => _ | some q => _
    cases hb : behL wEnd r with
    | none => rfl
    | some q =>
      have hs : behS ⟨r.toArray⟩ (wordAt L 4) = ⟨q.toArray⟩ := by unfold behS; rw [e, hd, hb]
      rw [if_neg (by simp)]
      show ((hearF L 7 n ⟨1, 5, 7, behS ⟨r.toArray⟩ (wordAt L 4)⟩).1, ByteArray.empty ++ (hearF L 7 n ⟨1, 5, 7, behS ⟨r.toArray⟩ (wordAt L 4)⟩).2) = _
      rw [hs]; rfl
theorem hear_end (n : Nat) (r : List UInt8) : hearF L 7 n (tk 3 r) = (tk 3 r, ByteArray.empty) := by
  cases n with
  | zero => rfl
  | succ n =>
    rw [hearF]
    show (if ((5 : Nat) : Int) ≤ 5 then _ else _) = _
    rw [if_pos (by omega)]
/-- What is said, when k words had been found and then k' have. -/
def saidK (k k' : Nat) : ByteArray := if k ≤ 1 ∧ 2 ≤ k' then q2 else ByteArray.empty
theorem ba_nil_app (x : ByteArray) : ByteArray.empty ++ x = x := by simp
theorem hear_no {k : Nat} (hk : k < 3) (n : Nat) {r : List UInt8} (h : behL (words.getD k []) r = none) : hearF L 7 (n + 1) (tk k r) = (tk k r, ByteArray.empty) := by rw [hear_step k hk, h]
theorem hear_yes {k : Nat} (hk : k < 3) (n : Nat) {r q : List UInt8} (h : behL (words.getD k []) r = some q) : hearF L 7 (n + 1) (tk k r) = ((hearF L 7 n (tk (k + 1) q)).1, (if k = 1 then q2 else ByteArray.empty) ++ (hearF L 7 n (tk (k + 1) q)).2) := by rw [hear_step k hk, h]
theorem hear_2 (n : Nat) (hn : 1 ≤ n) (r : List UInt8) : hearF L 7 n (tk 2 r) = (tk (2 + (scan [wEnd] r).1) (scan [wEnd] r).2, ByteArray.empty) := by
  obtain ⟨n, rfl⟩ : ∃ m, n = m + 1 := ⟨n - 1, by omega⟩
  cases hb : behL wEnd r with
  | none => rw [scan_no hb, hear_no (by omega) n (show behL (words.getD 2 []) r = none from hb)]; rfl
  | some q =>
    rw [scan_yes hb, hear_yes (by omega) n (show behL (words.getD 2 []) r = some q from hb), hear_end, if_neg (by omega)]
    rfl
theorem hear_1 (n : Nat) (hn : 2 ≤ n) (r : List UInt8) : hearF L 7 n (tk 1 r) = (tk (1 + (scan [wNo, wEnd] r).1) (scan [wNo, wEnd] r).2, if 1 ≤ (scan [wNo, wEnd] r).1 then q2 else ByteArray.empty) := by
  obtain ⟨n, rfl⟩ : ∃ m, n = m + 1 := ⟨n - 1, by omega⟩
  cases hb : behL wNo r with
  | none => rw [scan_no hb, hear_no (by omega) n (show behL (words.getD 1 []) r = none from hb)]; rfl
  | some q =>
    rw [scan_yes hb, hear_yes (by omega) n (show behL (words.getD 1 []) r = some q from hb), hear_2 n (by omega), if_pos rfl, if_pos (by show 1 ≤ _ + 1; omega)]
    refine Prod.ext ?_ ?_
    · show tk (2 + _) _ = tk (1 + (_ + 1)) _
      rw [show 2 + (scan [wEnd] q).1 = 1 + ((scan [wEnd] q).1 + 1) by omega]
    · rfl
theorem hear_0 (n : Nat) (hn : 3 ≤ n) (r : List UInt8) : hearF L 7 n (tk 0 r) = (tk (scan words r).1 (scan words r).2, if 2 ≤ (scan words r).1 then q2 else ByteArray.empty) := by
  obtain ⟨n, rfl⟩ : ∃ m, n = m + 1 := ⟨n - 1, by omega⟩
  have ew : words = wYes :: [wNo, wEnd] := rfl
  cases hb : behL wYes r with
  | none => rw [ew, scan_no hb, hear_no (by omega) n (show behL (words.getD 0 []) r = none from hb)]; rfl
  | some q =>
    rw [ew, scan_yes hb, hear_yes (by omega) n (show behL (words.getD 0 []) r = some q from hb), hear_1 n (by omega), if_neg (show ¬ (0 : Nat) = 1 by omega), ba_nil_app]
    refine Prod.ext ?_ ?_
    · show tk (1 + _) _ = tk (_ + 1) _
      rw [Nat.add_comm 1]
    · show (if 1 ≤ (scan [wNo, wEnd] q).1 then q2 else ByteArray.empty) = if 2 ≤ (scan [wNo, wEnd] q).1 + 1 then q2 else ByteArray.empty
      by_cases h : 1 ≤ (scan [wNo, wEnd] q).1
      · rw [if_pos h, if_pos (by omega)]
      · rw [if_neg h, if_neg (by omega)]
theorem dr0 : words.drop 0 = words := rfl
theorem dr1 : words.drop 1 = [wNo, wEnd] := rfl
theorem dr2 : words.drop 2 = [wEnd] := rfl
theorem hear_all (k : Nat) (hk : k < 3) (r : List UInt8) : hearF L 7 5 (tk k r) = (tk (k + (scan (words.drop k) r).1) (scan (words.drop k) r).2, saidK k (k + (scan (words.drop k) r).1)) := by
  have : k = 0 ∨ k = 1 ∨ k = 2 := by omega
  unfold saidK
  rcases this with rfl | rfl | rfl
  · rw [dr0, hear_0 5 (by omega), Nat.zero_add]
    by_cases h : 2 ≤ (scan words r).1
    · rw [if_pos h, if_pos ⟨by omega, h⟩]
    · rw [if_neg h, if_neg (by omega)]
  · rw [dr1, hear_1 5 (by omega)]
    by_cases h : 1 ≤ (scan [wNo, wEnd] r).1
    · rw [if_pos h, if_pos (by omega)]
    · rw [if_neg h, if_neg (by omega)]
  · rw [dr2, if_neg (by omega)]; exact hear_2 5 (by omega) r
/-- The document's box, when k words were found; what was heard behind the last. -/
structure HSt (d : Bx.Bo) (k : Nat) (r : List UInt8) : Prop where
  room : d.room = 4000
  now : d.now = if k < 3 then ⟨tab, 7, 2, [⟨1, 1, 7, 1, 7, true⟩], []⟩ else ⟨tab, 7, 2, [], [⟨1, Bx.hD⟩]⟩
  tks : d.talks = if k < 3 then [tk k r] else []
  txt : d.text.size ≤ if k < 3 then 1000 else 1012
theorem startL_eq {d : Bx.Bo} {k : Nat} {r : List UInt8} (h : HSt d k r) (hk : k < 3) : startL d 1 = L := by
  have hn : d.now = ⟨tab, 7, 2, [⟨1, 1, 7, 1, 7, true⟩], []⟩ := by rw [h.now, if_pos hk]
  unfold startL stepsS
  rw [hn]
  show stepsOf (tl tab 0) = L
  rw [tab_tl, steps]; rfl
theorem feed_hs {d : Bx.Bo} {k : Nat} {r : List UInt8} (h : HSt d k r) (hk : k < 3) (x : ByteArray) (hx : x.size ≤ 40) :
    (feedP d 1 x).2 = (saidK k (k + (scan (words.drop k) (r ++ x.data.toList)).1), 0) ∧ HSt (feedP d 1 x).1 (k + (scan (words.drop k) (r ++ x.data.toList)).1) (scan (words.drop k) (r ++ x.data.toList)).2 ∧ (feedP d 1 x).1.text.size ≤ d.text.size + 12 := by
  have hn : d.now = ⟨tab, 7, 2, [⟨1, 1, 7, 1, 7, true⟩], []⟩ := by rw [h.now, if_pos hk]
  have ht : d.talks = [tk k r] := by rw [h.tks, if_pos hk]
  have hF : Bx.find d.now 1 = 0 := by rw [hn]; rfl
  have hT : talkOf d.talks 1 = 0 := by rw [ht]; rfl
  have hA : tkAt d 0 = tk k r := by unfold tkAt; rw [ht]; rfl
  have hM : more (tk k r) x = tk k (r ++ x.data.toList) := by
    unfold more tk
    congr 1
  have hH : feedH d 1 x = (tk (k + (scan (words.drop k) (r ++ x.data.toList)).1) (scan (words.drop k) (r ++ x.data.toList)).2, saidK k (k + (scan (words.drop k) (r ++ x.data.toList)).1)) := by
    unfold feedH
    rw [startL_eq h hk, hT]
    show hearF L d.now.clock 5 (more (tkAt d 0) x) = _
    rw [hA, hM, hn]
    exact hear_all k hk _
  have hj : (scan (words.drop k) (r ++ x.data.toList)).1 ≤ 3 - k := by have := scan_le (words.drop k) (r ++ x.data.toList); simp [words] at this; exact this
  unfold feedP
  rw [if_neg (by omega), hF, if_neg (by omega), hT, if_neg (by omega), hH, startL_eq h hk]
  generalize (scan (words.drop k) (r ++ x.data.toList)).1 = j at *
  generalize (scan (words.drop k) (r ++ x.data.toList)).2 = q at *
  have hat : (tk (k + j) q).at' = (att (k + j) : Int) := rfl
  by_cases hd : k + j < 3
  · have hat5 : (att (k + j) : Int) < 5 := by
      have : k + j = 0 ∨ k + j = 1 ∨ k + j = 2 := by omega
      rcases this with e | e | e <;> rw [e] <;> decide
    have hl5 : (L.length : Int) = 5 := rfl
    rw [if_neg (by simp only [hat]; omega)]
    refine ⟨rfl, ⟨h.room, by show d.now = _; rw [if_pos hd, hn], ?_, by have := h.txt; rw [if_pos hk] at this; rw [if_pos hd]; exact this⟩, by show d.text.size ≤ _; omega⟩
    show d.talks.set (0 : Int).toNat (tk (k + j) q) = _
    rw [if_pos hd, ht]; rfl
  · have e3 : k + j = 3 := by omega
    have hl5 : (L.length : Int) = 5 := rfl
    have hfs : (Bx.frames [chD 1]).size ≤ 0 + 12 := by rw [Px.frames_one]; exact Px.fsz _
    have hro := h.room
    have htx : d.text.size ≤ 1000 := by have := h.txt; rwa [if_pos hk] at this
    rw [if_pos (by rw [hat, e3]; decide), if_neg (by omega)]
    have htold : Bx.told d.now [chD 1] = ⟨tab, 7, 2, [], [⟨1, Bx.hD⟩]⟩ := by
      rw [Px.told_one, hn]
      exact Px.tell_about (by decide) (by decide) rfl
    refine ⟨rfl, ⟨h.room, ?_, ?_, ?_⟩, ?_⟩
    · show Bx.told d.now [chD 1] = _
      rw [htold, if_neg hd]
    · show hushL (Bx.told d.now [chD 1]) d.talks = _
      rw [htold, if_neg hd, ht]; rfl
    · show (d.text ++ Bx.frames [chD 1]).size ≤ if k + j < 3 then 1000 else 1012
      rw [if_neg hd, ByteArray.size_append]; omega
    · show (d.text ++ Bx.frames [chD 1]).size ≤ d.text.size + 12
      rw [ByteArray.size_append]; omega
/-- The box at first, with its crontab, at minute 7. -/
def b0 : Px.Bo := ⟨1, 4000, Px.first, ByteArray.empty⟩
def d0 : Bx.Bo := ⟨1, 4000, Bx.first, ByteArray.empty, []⟩
def b1 : Px.Bo := ⟨1, 4000, { Px.first with tab := tab }, ByteArray.empty ++ Bx.frames [chT tab]⟩
def s2 : Px.St := ⟨tab, 7, 2, [⟨1, 1, 7, 1, 7, 0, 0, ByteArray.empty⟩], []⟩
def b2 : Px.Bo := { b1 with st := s2, log := b1.log ++ Bx.frame (Bx.body (chCl 7)) }
theorem tsz : (Bx.frames [chT tab]).size ≤ 48 := by rw [Px.frames_one]; exact Px.fsz _
theorem load1 {b' : Px.Bo} {a r : Int} (h : Px.LoadB b0 tab b' a r) : a = 0 ∧ r = 0 ∧ b' = b1 := by
  obtain ⟨h1, h2, h3⟩ := Px.load_yes h chk rfl (by decide)
  exact ⟨h1, h2, h3⟩
theorem lns_tab : Bx.lns tab = [lnOf line] := by
  unfold Bx.lns Bx.linesOf
  rw [tab_tn, tab_pcs]; rfl
theorem due7 : (lnOf line).due 7 = true := by
  show dueT line 7 = true
  have H : Cal.IsD (7 / 1440) 1970 1 1 := ⟨by decide, by decide, by decide, by decide, by decide, by decide, by decide⟩
  rw [← dueT_of H]
  have p0 : pt line 0 = star := by unfold pt; rw [line_pcs]; rfl
  have p1 : pt line 1 = star := by unfold pt; rw [line_pcs]; rfl
  have p2 : pt line 2 = star := by unfold pt; rw [line_pcs]; rfl
  have p3 : pt line 3 = star := by unfold pt; rw [line_pcs]; rfl
  have p4 : pt line 4 = star := by unfold pt; rw [line_pcs]; rfl
  unfold dueB dayB
  rw [p0, p1, p2, p3, p4, star_hld _ _ _ (by decide) (by decide), star_hld _ _ _ (by decide) (by decide), star_hld _ _ _ (by decide) (by decide), star_hld _ _ _ (by decide) (by decide), star_hld _ _ _ (by decide) (by decide)]
  rfl
theorem clock7 : Px.clockP b1.st 7 = (s2, 0) := by
  have hc : Px.comesP b1.st 7 = [(0, 7)] := by
    show Bx.comes (Bx.lns tab) 7 7 = _
    rw [lns_tab]; exact Px.comes_at due7
  rw [Px.clock_one (by decide) (by decide) (by decide) (by decide) (by decide) hc]; rfl
theorem tick7 : Px.tickB b1 7 = (b2, 1, 0) := by
  have h : (b1.log.size : Int) + 12 ≤ b1.room := by
    show (((ByteArray.empty ++ Bx.frames [chT tab]).size : Nat) : Int) + 12 ≤ 4000
    have := tsz
    rw [ByteArray.size_append]; simp; omega
  rw [Px.tick_yes clock7 rfl h]; rfl
theorem rel2 : ∃ d, Px.Rel b2 d := by
  have h0 : Px.Rel b0 d0 := Px.Rel.new (by decide)
  have hL : LoadR d0 tab (addB d0 [chT tab]) 0 0 := Or.inr (Or.inr (Or.inr ⟨chk, rfl, by show ¬ (4000 : Int) < ((0 : Nat) : Int) + _; have := tsz; omega, rfl, rfl, rfl⟩))
  have hB : Px.LoadB b0 tab b1 0 0 := Or.inr (Or.inr (Or.inr ⟨chk, rfl, by show ¬ (4000 : Int) < ((0 : Nat) : Int) + _; have := tsz; omega, rfl, rfl, rfl⟩))
  have h1 := (Px.load_rel h0 hB hL).2.2
  have h2 := (Px.tick_rel h1 7).2
  rw [tick7] at h2
  exact ⟨_, h2⟩
theorem lock0 : Bx.locked ⟨tab, 7, 2, [⟨1, 1, 7, 1, 7, false⟩], []⟩ (0 : Int).toNat = false := by unfold Bx.locked; simp [Bx.lockK, Bx.slAt]
theorem start1 : (Px.startB b2 1).2 = (⟨#[113, 49]⟩, 0) ∧ ∃ d, Px.Rel (Px.startB b2 1).1 d ∧ HSt d 0 [] := by
  obtain ⟨d, hR⟩ := rel2
  have hS := Px.start_rel hR 1
  have hn : d.now = ⟨tab, 7, 2, [⟨1, 1, 7, 1, 7, false⟩], []⟩ := by rw [hR.now]; rfl
  have ht : d.talks = [] := by
    cases q : d.talks with
    | nil => rfl
    | cons t r =>
      obtain ⟨x, hx, _, hs, _⟩ := hR.tks.of t (by rw [q]; simp)
      have : x = ⟨1, 1, 7, 1, 7, 0, 0, ByteArray.empty⟩ := by simpa [b2, s2] using hx
      subst this; simp at hs
  have hF : Bx.find d.now 1 = 0 := by rw [hn]; rfl
  have hr : refusedP d (Bx.find d.now 1) = 0 := by
    unfold refusedP
    rw [hF, hn, hR.lim]
    rw [if_neg (by decide), if_neg (by decide), if_neg (by decide)]
    rw [lock0, if_neg (by simp)]
    rfl
  have hL : startL d 1 = L := by
    unfold startL stepsS
    rw [hn]
    show stepsOf (tl tab 0) = L
    rw [tab_tl, steps]; rfl
  have hsz : (Bx.frames (startC L 1)).size ≤ 12 := by
    show (Bx.frames [chS 1]).size ≤ 0 + 12
    rw [Px.frames_one]; exact Px.fsz _
  have htx : d.text.size ≤ 60 := by
    rw [hR.txt]
    show ((ByteArray.empty ++ Bx.frames [chT tab]) ++ Bx.frame (Bx.body (chCl 7))).size ≤ 60
    have h1 := tsz
    have h2 : (Bx.frame (Bx.body (chCl 7))).size ≤ 0 + 12 := Px.fsz _
    rw [ByteArray.size_append, ByteArray.size_append]; simp; omega
  have hro : d.room = 4000 := hR.room
  have hP : startP d 1 = ({ addB d [chS 1] with talks := [⟨1, 1, 7, { data := #[] }⟩] }, ⟨#[113, 49]⟩, 0) := by
    unfold startP
    rw [hr, hL, ht, if_neg (by simp), if_neg (by omega), hn]
    rfl
  rw [hP] at hS
  refine ⟨hS.1, _, hS.2, hro, ?_, rfl, ?_⟩
  · show Bx.told d.now [chS 1] = _
    rw [Px.told_one, hn]
    refine Px.tell_about (by decide) (by decide) ?_
    unfold Bx.aboutP
    rw [show Bx.find ⟨tab, 7, 2, [⟨1, 1, 7, 1, 7, false⟩], []⟩ 1 = 0 from rfl, if_neg (by decide), if_neg (by decide), if_pos rfl, if_neg]
    · rfl
    · rw [lock0]; rintro (h | h | h)
      · cases h
      · revert h; decide
      · cases h
  · show (d.text ++ Bx.frames [chS 1]).size ≤ 1000
    have : (Bx.frames [chS 1]).size ≤ 0 + 12 := by rw [Px.frames_one]; exact Px.fsz _
    rw [ByteArray.size_append]; omega
end Hs
end Go.Proofs.YtdajolpoiffimaaDoor

namespace Go.Proofs.YtdajolpoiffimaaDoor
namespace Hs
theorem scan_full (x : List UInt8) (ws : List (List UInt8)) : ∀ t, (scan ws t).1 = ws.length → (scan ws (t ++ x)).1 = ws.length := by
  induction ws with
  | nil => intro t _; rfl
  | cons w ws ih =>
    intro t h
    cases hb : behL w t with
    | none => rw [scan_no hb] at h; simp at h
    | some q =>
      rw [scan_yes hb] at h
      rw [scan_yes (beh_app x hb)]
      simp only [List.length_cons] at h ⊢
      rw [ih q (by omega)]
theorem words_len : words.length = 3 := rfl
theorem scan3 (t : List UInt8) : (scan words t).1 ≤ 3 := scan_le words t
theorem scan_mono (t x : List UInt8) : (scan words t).1 ≤ (scan words (t ++ x)).1 := by
  by_cases h : (scan words t).1 < 3
  · rw [scan_app x words t h]; simp
  · have := scan3 t
    rw [scan_full x words t (by rw [words_len]; omega)]; exact this
theorem said_app {k k' : Nat} (h : k ≤ k') : saidK 0 k ++ saidK k k' = saidK 0 k' := by
  unfold saidK
  by_cases h1 : 2 ≤ k
  · rw [if_pos ⟨by omega, h1⟩, if_neg (by omega), if_pos ⟨by omega, by omega⟩]; simp
  · rw [if_neg (by omega)]
    by_cases h2 : 2 ≤ k'
    · rw [if_pos ⟨by omega, h2⟩, if_pos ⟨by omega, h2⟩]; simp
    · rw [if_neg (by omega), if_neg (by omega)]; simp
/-- The program's box, behind the pieces x. -/
def HInv (b : Px.Bo) (x : List UInt8) : Prop := ∃ d r, Px.Rel b d ∧ HSt d (scan words x).1 r ∧ ((scan words x).1 < 3 → r = (scan words x).2)
theorem HInv.start : HInv (Px.startB b2 1).1 [] := by
  obtain ⟨_, d, h1, h2⟩ := start1
  have e : scan words [] = (0, []) := rfl
  exact ⟨d, [], h1, by rw [e]; exact h2, fun _ => by rw [e]⟩
theorem HInv.ok {b : Px.Bo} {x : List UInt8} (h : HInv b x) : Px.Ok b.st ∧ b.log.size ≤ 10000 := by
  obtain ⟨d, r, h1, h2, _⟩ := h
  refine ⟨h1.ok, ?_⟩
  have := h2.txt
  rw [← h1.txt]
  split at this <;> omega
theorem HInv.feed {b : Px.Bo} {x : List UInt8} (h : HInv b x) (hk : (scan words x).1 < 3) (y : ByteArray) (hy : y.size ≤ 40) :
    (Px.feedB b 1 y).2 = (saidK (scan words x).1 (scan words (x ++ y.data.toList)).1, 0) ∧ HInv (Px.feedB b 1 y).1 (x ++ y.data.toList) := by
  obtain ⟨d, r, h1, h2, h3⟩ := h
  have hr := h3 hk
  subst hr
  obtain ⟨e1, e2⟩ := Px.feed_rel h1 1 y
  obtain ⟨f1, f2, _⟩ := feed_hs h2 hk y hy
  have hs := scan_app y.data.toList words x hk
  have hs1 : (scan words (x ++ y.data.toList)).1 = (scan words x).1 + (scan (words.drop (scan words x).1) ((scan words x).2 ++ y.data.toList)).1 := by rw [hs]
  have hs2 : (scan words (x ++ y.data.toList)).2 = (scan (words.drop (scan words x).1) ((scan words x).2 ++ y.data.toList)).2 := by rw [hs]
  rw [← hs1] at f1 f2
  rw [← hs2] at f2
  exact ⟨e1.trans f1, _, _, e2, f2, fun _ => rfl⟩
/-- Behind its end nothing is fed. -/
theorem HInv.over {b : Px.Bo} {x : List UInt8} (h : HInv b x) (hk : (scan words x).1 = 3) : b.st.slots = [] ∧ b.st.ends = [⟨1, Bx.hD⟩] := by
  obtain ⟨d, r, h1, h2, h3⟩ := h
  have hn := h2.now
  rw [hk, if_neg (by decide), h1.now] at hn
  have hs : b.st.slots.map Px.absS = [] := congrArg Bx.St.slots hn
  have he : b.st.ends = [⟨1, Bx.hD⟩] := congrArg Bx.St.ends hn
  exact ⟨List.map_eq_nil_iff.1 hs, he⟩
theorem HInv.refuse {b : Px.Bo} {x : List UInt8} (h : HInv b x) (hk : (scan words x).1 = 3) (y : ByteArray) (hy : y.size ≤ 40) : Px.feedB b 1 y = (b, ByteArray.empty, 8) := by
  have hs := (h.over hk).1
  unfold Px.feedB Px.talkB
  rw [if_neg (by omega), hs]; rfl
/-- The slot, as it runs. -/
theorem HInv.runs {b : Px.Bo} {x : List UInt8} (h : HInv b x) (hk : (scan words x).1 < 3) : b.st.ends = [] ∧ ∃ s : Px.Sl, b.st.slots = [s] ∧ s.num = 1 ∧ s.line = 1 ∧ s.minute = 7 ∧ s.att = 1 ∧ s.frm = 7 ∧ s.step = (att (scan words x).1 : Int) + 1 := by
  obtain ⟨d, r, h1, h2, h3⟩ := h
  have hn := h2.now
  rw [if_pos hk, h1.now] at hn
  have hs : b.st.slots.map Px.absS = [⟨1, 1, 7, 1, 7, true⟩] := congrArg Bx.St.slots hn
  have he : b.st.ends = [] := congrArg Bx.St.ends hn
  refine ⟨he, ?_⟩
  have hl : b.st.slots.length = 1 := by have := congrArg List.length hs; simpa using this
  obtain ⟨s, hss⟩ : ∃ s, b.st.slots = [s] := List.length_eq_one_iff.1 hl
  rw [hss] at hs
  simp only [List.map_cons, List.map_nil, List.cons.injEq, and_true] at hs
  have q := h1.step (x := s) (by rw [hss]; simp)
  have hnum : s.num = 1 := congrArg Bx.Sl.num hs
  have ht : d.talks = [tk (scan words x).1 r] := by rw [h2.tks, if_pos hk]
  have hT : talkOf d.talks 1 = 0 := by rw [ht]; rfl
  have hA : tkAt d 0 = tk (scan words x).1 r := by unfold tkAt; rw [ht]; rfl
  rw [hnum, hT, if_pos (by decide)] at q
  refine ⟨s, hss, hnum, congrArg Bx.Sl.line hs, congrArg Bx.Sl.minute hs, congrArg Bx.Sl.att hs, congrArg Bx.Sl.frm hs, ?_⟩
  rw [← q]
  show (tkAt d 0).at' + 1 = _
  rw [hA]; rfl
/-- Where a word ends, first. -/
def fin (w t : List UInt8) : Option Nat := (behL w t).map fun r => t.length - r.length
theorem fin_no {w t : List UInt8} (h : ∀ i, i + w.length ≤ t.length → w.isPrefixOf (t.drop i) = false) : behL w t = none := by
  induction t with
  | nil =>
    cases w with
    | nil => have := h 0 (by simp); simp at this
    | cons a q => rw [behL_short (by simp)]
  | cons a r ih =>
    by_cases hl : w.length ≤ (a :: r).length
    · have h0 := h 0 (by omega)
      rw [List.drop_zero] at h0
      rw [behL_no h0]
      refine ih fun i hi => ?_
      have := h (i + 1) (by simp; omega)
      simpa using this
    · exact behL_short (by omega)
theorem fin_yes {w : List UInt8} : ∀ {t : List UInt8} {i : Nat}, (∀ j, j < i → w.isPrefixOf (t.drop j) = false) → w.isPrefixOf (t.drop i) = true → i + w.length ≤ t.length → behL w t = some (t.drop (i + w.length)) := by
  intro t
  induction t with
  | nil =>
    intro i h1 h2 h3
    have : i = 0 := by simp at h3; omega
    subst this
    rw [behL_yes (by simpa using h2)]; simp
  | cons a r ih =>
    intro i h1 h2 h3
    cases i with
    | zero => rw [behL_yes (by simpa using h2)]; simp
    | succ i =>
      have h0 := h1 0 (by omega)
      rw [List.drop_zero] at h0
      rw [behL_no h0, ih (i := i) (fun j hj => by have := h1 (j + 1) (by omega); simpa using this) (by simpa using h2) (by simp at h3; omega)]
      rw [show i + 1 + w.length = (i + w.length) + 1 by omega, List.drop_succ_cons]
end Hs
end Go.Proofs.YtdajolpoiffimaaDoor
