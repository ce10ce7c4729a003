/-
  Doc, PCome, PRel, Hear, PCalls, PCalls2, PTick, PTalk, PTalk2, PStart, DuoM, HearM, RunM.
-/
import Derived.KernelRfl
import Derived.Test.YtdajolpoiffimaaDoorH1

namespace Go.Proofs.YtdajolpoiffimaaDoor

namespace Bx
structure Tk where
  num : Int
  at' : Int
  since : Int
  heard : ByteArray
/-- A box of the document's. -/
structure Bo where
  limit : Int
  room : Int
  now : St
  text : ByteArray
  talks : List Tk
end Bx
/-- May a box have this limit and this room? -/
def mayB (l r : Int) : Bool := decide (1 ≤ l ∧ l ≤ 4 ∧ 600 ≤ r ∧ r ≤ 4000)
theorem slAt_eq (s : Bx.St) (k : Nat) (h : k < s.slots.length) : s.slots[k] = Bx.slAt s k := by simp [Bx.slAt, h]

/-- The talk of a slot; -1: there is none. -/
def talkOf (l : List Bx.Tk) (n : Int) : Int := match l.findIdx? (fun t => t.num == n) with | some i => (i : Int) | none => -1
theorem talkOf_some {l : List Bx.Tk} {n : Int} {k : Nat} (h : k < l.length) (hk : l[k].num = n) (hj : ∀ j (h : j < l.length), j < k → ¬ l[j].num = n) : talkOf l n = k := by
  have : l.findIdx? (fun t => t.num == n) = some k := by
    rw [List.findIdx?_eq_some_iff_getElem]
    exact ⟨h, by simpa using hk, fun j hjk => by simpa using hj j (by omega) hjk⟩
  unfold talkOf; rw [this]
theorem talkOf_none {l : List Bx.Tk} {n : Int} (hj : ∀ j (h : j < l.length), ¬ l[j].num = n) : talkOf l n = -1 := by
  have : l.findIdx? (fun t => t.num == n) = none := by
    rw [List.findIdx?_eq_none_iff]
    intro x hx
    obtain ⟨j, hjl, rfl⟩ := List.getElem_of_mem hx
    simpa using hj j hjl
  unfold talkOf; rw [this]
theorem talkOf_bd (l : List Bx.Tk) (n : Int) : -1 ≤ talkOf l n ∧ talkOf l n < l.length := by
  unfold talkOf
  cases h : l.findIdx? (fun t => t.num == n) with
  | none => simp; omega
  | some i =>
    rw [List.findIdx?_eq_some_iff_getElem] at h
    obtain ⟨hi, _⟩ := h
    simp; omega

/-- A box that may be asked: its state, how long its log is, its talks. -/
structure BoOk (b : Bx.Bo) : Prop where
  st : Bx.StOk b.now
  txt : b.text.size ≤ 100000
  tks : b.talks.length ≤ 100
  since : ∀ t ∈ b.talks, -1 ≤ t.since ∧ t.since ≤ 4223371679
  ats : ∀ t ∈ b.talks, 0 ≤ t.at' ∧ t.at' ≤ 100
/-- Changes are added. -/
noncomputable def addB (b : Bx.Bo) (L : List Bx.Ch) : Bx.Bo := { b with text := b.text ++ Bx.frames L, now := Bx.told b.now L }
def fits (b : Bx.Bo) (L : List Bx.Ch) : Prop := ¬ b.room < (b.text.size : Int) + (Bx.frames L).size
def chT (tab : ByteArray) : Bx.Ch := ⟨84, tab, 0⟩
/-- What Load does and answers. -/
def LoadR (b : Bx.Bo) (tab : ByteArray) (b' : Bx.Bo) (a r : Int) : Prop :=
  (¬ r = 0 ∧ ChkR tab a r ∧ b' = b) ∨ (ChkR tab 0 0 ∧ 0 < b.now.slots.length ∧ b' = b ∧ a = 0 ∧ r = 5) ∨
  (ChkR tab 0 0 ∧ b.now.slots.length = 0 ∧ ¬ fits b [chT tab] ∧ b' = b ∧ a = 0 ∧ r = 13) ∨ (ChkR tab 0 0 ∧ b.now.slots.length = 0 ∧ fits b [chT tab] ∧ b' = addB b [chT tab] ∧ a = 0 ∧ r = 0)
def chCl (m : Int) : Bx.Ch := ⟨67, { data := #[] }, m⟩
def chF (n : Int) : Bx.Ch := ⟨70, { data := #[] }, n⟩
def tk0 : Bx.Tk := ⟨0, 0, 0, ByteArray.empty⟩
def tkAt (b : Bx.Bo) (i : Nat) : Bx.Tk := b.talks.getD i tk0
theorem tkAt_eq (b : Bx.Bo) (k : Nat) (h : k < b.talks.length) : b.talks[k] = tkAt b k := by simp [tkAt, h]
/-- Has a slot not been answered, when the clock becomes m? -/
def late (b : Bx.Bo) (m n : Int) : Bool := decide (0 ≤ talkOf b.talks n) && decide ((tkAt b (talkOf b.talks n).toNat).since + 3 ≤ m)
/-- The changes of a Tick, of the first k slots. -/
def tickK (b : Bx.Bo) (m : Int) : Nat → List Bx.Ch
  | 0 => [chCl m]
  | k + 1 => if late b m (Bx.slAt b.now k).num = true then tickK b m k ++ [chF (Bx.slAt b.now k).num] else tickK b m k
def tickL (b : Bx.Bo) (m : Int) : List Bx.Ch := tickK b m b.now.slots.length
theorem tickK_len (b : Bx.Bo) (m : Int) (k : Nat) : 1 ≤ (tickK b m k).length ∧ (tickK b m k).length ≤ k + 1 := by
  induction k with
  | zero => simp [tickK]
  | succ k ih => rw [tickK]; split <;> (try simp) <;> omega
/-- Does a talk's slot run still? -/
def goesOn (s : Bx.St) (t : Bx.Tk) : Bool := decide (0 ≤ Bx.find s t.num) && (Bx.slAt s (Bx.find s t.num).toNat).runs
def hushL (s : Bx.St) (l : List Bx.Tk) : List Bx.Tk := l.filter (goesOn s)
theorem hush_take (s : Bx.St) (l : List Bx.Tk) (k : Nat) (h : k < l.length) : hushL s (l.take (k + 1)) = if goesOn s l[k] = true then hushL s (l.take k) ++ [l[k]] else hushL s (l.take k) := by
  unfold hushL
  rw [List.take_succ_eq_append_getElem h, List.filter_append]
  split
  · rename_i e; simp [e]
  · rename_i e; simp [e]
theorem hush_len (s : Bx.St) (l : List Bx.Tk) : (hushL s l).length ≤ l.length := List.length_filter_le _ _
/-- What Tick does and answers. -/
noncomputable def tickP (b : Bx.Bo) (m : Int) : Bx.Bo × Int × Int :=
  if ¬ minB m = true then (b, 0, 4)
  else if ¬ Bx.ahead b.now m = true then (b, 0, 6)
  else if 10000 < b.now.next + ((Bx.comesS b.now m).length : Int) then (b, 0, 7)
  else if b.room < (b.text.size : Int) + (Bx.frames (tickL b m)).size then (b, 0, 13)
  else ({ addB b (tickL b m) with talks := hushL (Bx.told b.now (tickL b m)) b.talks }, ((Bx.comesS b.now m).length : Int), 0)

/-- What is said, from a step on; how many steps that is. -/
def saysL : List ByteArray → ByteArray × Nat
  | [] => (ByteArray.empty, 0)
  | s :: r => if s.data.toList.head? = some 60 then (ByteArray.empty, 0) else (s.extract 1 s.size ++ (saysL r).1, (saysL r).2 + 1)
theorem saysL_size (L : List ByteArray) (h : ∀ s ∈ L, s.size ≤ 9) : (saysL L).1.size ≤ L.length * 9 ∧ (saysL L).2 ≤ L.length := by
  induction L with
  | nil => simp [saysL]
  | cons s r ih =>
    have h1 := h s (by simp)
    have h2 := ih fun x hx => h x (by simp [hx])
    rw [saysL]
    split
    · simp
    · simp [ByteArray.size_append]; omega
theorem head_at {s : ByteArray} (h : 0 < s.size) : s.data.toList.head? = some s[0] := by
  have hl : 0 < s.data.toList.length := by simpa using h
  rw [List.head?_eq_getElem?, List.getElem?_eq_getElem hl]; rfl

/-- The steps of a slot's line. -/
def stepsS (s : Bx.St) (j : Nat) : List ByteArray := stepsOf (tl s.tab j)
/-- Why a slot may not be started. -/
def refusedP (b : Bx.Bo) (F : Int) : Int :=
  if F < 0 then 8 else if (Bx.slAt b.now F.toNat).runs = true then 9 else if b.now.clock < (Bx.slAt b.now F.toNat).frm then 10
  else if Bx.locked b.now F.toNat = true then 11 else if b.limit ≤ (Bx.running b.now : Int) then 12 else 0
def chK (n : Int) : Bx.Ch := ⟨75, { data := #[] }, n⟩
/-- What Cancel does and answers. -/
noncomputable def cancelP (b : Bx.Bo) (n : Int) : Bx.Bo × Int :=
  if Bx.find b.now n < 0 then (b, 8)
  else if b.room < (b.text.size : Int) + (Bx.frames [chK n]).size then (b, 13)
  else ({ addB b [chK n] with talks := hushL (Bx.told b.now [chK n]) b.talks }, 0)
/-- A number that is found is one of a slot's. -/
theorem find_num {s : Bx.St} {n : Int} (h : ¬ Bx.find s n < 0) : (Bx.slAt s (Bx.find s n).toNat).num = n := by
  have key : ∀ k, k ≤ s.slots.length → ¬ Bx.findK s.slots n k < 0 → (Bx.slAt s (Bx.findK s.slots n k).toNat).num = n := by
    intro k hk hn
    induction k with
    | zero => simp [Bx.findK] at hn
    | succ k ih =>
      rw [Bx.findK] at hn ⊢
      split
      · rename_i he
        have hkl : k < s.slots.length := by omega
        rw [List.getElem?_eq_getElem hkl] at he
        rw [Int.toNat_natCast, ← slAt_eq s k hkl]; simpa using he
      · rename_i he
        rw [if_neg he] at hn
        exact ih (by omega) hn
  exact key s.slots.length (Nat.le_refl _) h

def chS (n : Int) : Bx.Ch := ⟨83, { data := #[] }, n⟩
def chD (n : Int) : Bx.Ch := ⟨68, { data := #[] }, n⟩
/-- The changes of a Start. -/
def startC (L : List ByteArray) (n : Int) : List Bx.Ch := if (saysL L).2 = L.length then [chS n] ++ [chD n] else [chS n]
def startL (b : Bx.Bo) (n : Int) : List ByteArray := stepsS b.now ((Bx.slAt b.now (Bx.find b.now n).toNat).line - 1).toNat
/-- What Start does and answers. -/
noncomputable def startP (b : Bx.Bo) (n : Int) : Bx.Bo × ByteArray × Int :=
  if ¬ refusedP b (Bx.find b.now n) = 0 then (b, ByteArray.empty, refusedP b (Bx.find b.now n))
  else if b.room < (b.text.size : Int) + (Bx.frames (startC (startL b n) n)).size then (b, ByteArray.empty, 13)
  else ({ addB b (startC (startL b n) n) with talks := if (saysL (startL b n)).2 < (startL b n).length then b.talks ++ [⟨n, ((saysL (startL b n)).2 : Nat), b.now.clock, { data := #[] }⟩] else b.talks }, (saysL (startL b n)).1, 0)
open Classical in
theorem stepP_of {s : ByteArray} (h : Txt.stepB s = true) : Txt.StepP s := by unfold Txt.stepB at h; exact of_decide_eq_true h
theorem step_sz {l : ByteArray} (h : LineP l) : ∀ s ∈ stepsOf l, 2 ≤ s.size ∧ s.size ≤ 9 := by
  intro s hs
  unfold stepsOf at hs
  obtain ⟨k, hk, rfl⟩ := List.getElem_of_mem hs
  simp at hk
  have := h.stp (6 + k) (by omega) (by omega)
  rw [List.getElem_drop]
  exact ⟨(stepP_of this).1, (stepP_of this).2.1⟩

/-- What stands behind the first place of a word. -/
def behL (w : List UInt8) : List UInt8 → Option (List UInt8)
  | [] => if w = [] then some [] else none
  | a :: r => if w.isPrefixOf (a :: r) = true then some ((a :: r).drop w.length) else behL w r
theorem behL_yes {w t : List UInt8} (h : w.isPrefixOf t = true) : behL w t = some (t.drop w.length) := by
  cases t with
  | nil => cases w <;> simp [List.isPrefixOf] at h; simp [behL]
  | cons a r => rw [behL, if_pos h]
theorem behL_no {w : List UInt8} {a : UInt8} {r : List UInt8} (h : w.isPrefixOf (a :: r) = false) : behL w (a :: r) = behL w r := by rw [behL, h]; rfl
theorem behL_short {w t : List UInt8} (h : t.length < w.length) : behL w t = none := by
  induction t with
  | nil => cases w <;> simp [behL] at *
  | cons a r ih =>
    have hp : w.isPrefixOf (a :: r) = false := by
      cases hh : w.isPrefixOf (a :: r)
      · rfl
      · have := List.IsPrefix.length_le (List.isPrefixOf_iff_prefix.1 hh); omega
    rw [behL_no hp]; exact ih (by simp at h; omega)
theorem ext_list (y : ByteArray) (a b : Nat) : (y.extract a b).data.toList = (y.data.toList.drop a).take (b - a) := by
  rw [ByteArray.data_extract, Array.toList_extract]
/-- What behind answers. -/
def behS (t w : ByteArray) : ByteArray := match behL w.data.toList t.data.toList with | some l => ⟨l.toArray⟩ | none => ByteArray.empty
def behB (t w : ByteArray) : Bool := (behL w.data.toList t.data.toList).isSome

/-- A step's word. -/
def wordAt (L : List ByteArray) (a : Nat) : ByteArray := (L.getD a ByteArray.empty).extract 1 (L.getD a ByteArray.empty).size
/-- A talk behind what was heard, and what was said. -/
def hearF (L : List ByteArray) (c : Int) : Nat → Bx.Tk → Bx.Tk × ByteArray
  | 0, t => (t, ByteArray.empty)
  | n + 1, t => if (L.length : Int) ≤ t.at' then (t, ByteArray.empty) else if behB t.heard (wordAt L t.at'.toNat) = false then (t, ByteArray.empty)
    else ((hearF L c n ⟨t.num, ((t.at'.toNat + 1 + (saysL (L.drop (t.at'.toNat + 1))).2 : Nat) : Int), c, behS t.heard (wordAt L t.at'.toNat)⟩).1,
      (saysL (L.drop (t.at'.toNat + 1))).1 ++ (hearF L c n ⟨t.num, ((t.at'.toNat + 1 + (saysL (L.drop (t.at'.toNat + 1))).2 : Nat) : Int), c, behS t.heard (wordAt L t.at'.toNat)⟩).2)
theorem behL_len {w t r : List UInt8} (h : behL w t = some r) : r.length ≤ t.length := by
  induction t with
  | nil => simp [behL] at h; obtain ⟨_, rfl⟩ := h; simp
  | cons a q ih =>
    rw [behL] at h
    split at h
    · cases h; simp
    · have := ih h; simp; omega
theorem behS_size (t u : ByteArray) : (behS t u).size ≤ t.size := by
  unfold behS
  cases h : behL u.data.toList t.data.toList with
  | none => simp
  | some l =>
    have := behL_len h
    show l.toArray.size ≤ t.size
    simpa using this
theorem hearF_size (L : List ByteArray) (c : Int) (hL : ∀ s ∈ L, s.size ≤ 9) (hn : L.length ≤ 100) (n : Nat) (t : Bx.Tk) : (hearF L c n t).2.size ≤ n * 900 := by
  induction n generalizing t with
  | zero => simp [hearF]
  | succ n ih =>
    rw [hearF]
    split
    · simp
    · split
      · simp
      · have h1 := (saysL_size (L.drop (t.at'.toNat + 1)) (fun s h => hL s (List.mem_of_mem_drop h))).1
        have h2 := ih ⟨t.num, ((t.at'.toNat + 1 + (saysL (L.drop (t.at'.toNat + 1))).2 : Nat) : Int), c, behS t.heard (wordAt L t.at'.toNat)⟩
        have h3 : (L.drop (t.at'.toNat + 1)).length ≤ 100 := by simp; omega
        simp only [ByteArray.size_append]
        omega
theorem word_eq {L : List ByteArray} {a : Nat} (h : a < L.length) : L[a].extract 1 L[a].size = wordAt L a := by simp [wordAt, h]

/-- A talk with more heard. -/
def more (t : Bx.Tk) (x : ByteArray) : Bx.Tk := { t with heard := t.heard ++ x }
def feedH (b : Bx.Bo) (n : Int) (x : ByteArray) : Bx.Tk × ByteArray := hearF (startL b n) b.now.clock (startL b n).length (more (tkAt b (talkOf b.talks n).toNat) x)
/-- What Feed does and answers. -/
noncomputable def feedP (b : Bx.Bo) (n : Int) (x : ByteArray) : Bx.Bo × ByteArray × Int :=
  if 40 < x.size then (b, ByteArray.empty, 1)
  else if Bx.find b.now n < 0 then (b, ByteArray.empty, 8)
  else if talkOf b.talks n < 0 then (b, ByteArray.empty, 9)
  else if ((startL b n).length : Int) ≤ (feedH b n x).1.at' then
    (if b.room < (b.text.size : Int) + (Bx.frames [chD n]).size then (b, ByteArray.empty, 13) else ({ addB b [chD n] with talks := hushL (Bx.told b.now [chD n]) b.talks }, (feedH b n x).2, 0))
  else ({ b with talks := b.talks.set (talkOf b.talks n).toNat (feedH b n x).1 }, (feedH b n x).2, 0)

theorem skip_none (l : List Bx.Sl) (k : Nat) (hk : k ≤ l.length) : Bx.skipK l (-1) k = l.take k := by
  induction k with
  | zero => simp [Bx.skipK]
  | succ k ih =>
    rw [Bx.skipK, if_neg (by omega), ih (by omega), List.take_succ_eq_append_getElem hk, List.getElem?_eq_getElem hk]; rfl
theorem without_none (l : List Bx.Sl) : Bx.withoutL l (-1) = l := by rw [Bx.withoutL, skip_none l _ (Nat.le_refl _), List.take_length]
theorem without_len (l : List Bx.Sl) (a : Int) : (Bx.withoutL l a).length ≤ l.length := Bx.skipK_len l a l.length
theorem put_len (l : List Bx.Sl) (a : Int) (x : Bx.Sl) : (Bx.putL l a x).length ≤ l.length := Bx.putK_len l a x l.length
theorem putK_set (l : List Bx.Sl) (k : Nat) (y : Bx.Sl) (m : Nat) (hm : m ≤ l.length) : Bx.putK l k y m = (l.set k y).take m := by
  induction m with
  | zero => simp [Bx.putK]
  | succ m ih =>
    have hl : m < (l.set k y).length := by rw [List.length_set]; omega
    rw [Bx.putK, ih (by omega), List.take_succ_eq_append_getElem hl]
    congr 1
    by_cases h : m = k
    · subst h; simp
    · rw [if_neg (by omega), List.getElem_set_ne (by omega), List.getElem?_eq_getElem (by omega)]; rfl
theorem putL_set (l : List Bx.Sl) (k : Nat) (y : Bx.Sl) : Bx.putL l k y = l.set k y := by
  rw [Bx.putL, putK_set l k y _ (Nat.le_refl _)]
  rw [List.take_of_length_le (by simp)]
/-- It waits. -/
def clr (x : Bx.Sl) : Bx.Sl := { x with runs := false }
def intK (l : List Bx.Sl) (k : Nat) : List Bx.Sl := (l.take k).map clr ++ l.drop k
theorem intK_len (l : List Bx.Sl) (k : Nat) (h : k ≤ l.length) : (intK l k).length = l.length := by simp [intK]; omega
theorem intK_at (l : List Bx.Sl) (k : Nat) (h : k < l.length) : (intK l k)[k]'(by rw [intK_len l k (by omega)]; exact h) = l[k] := by
  simp only [intK]
  rw [List.getElem_append_right (by simp; omega)]
  simp [Nat.min_eq_left (Nat.le_of_lt h)]
theorem intK_next (l : List Bx.Sl) (k : Nat) (h : k < l.length) : (intK l k).set k (clr l[k]) = intK l (k + 1) := by
  have hl : ((l.take k).map clr).length = k := by simp; omega
  rw [intK, List.drop_eq_getElem_cons h, List.set_append_right _ _ (by omega), hl, Nat.sub_self, List.set_cons_zero, intK, List.take_succ_eq_append_getElem h, List.map_append, List.append_assoc]; rfl
def intS (s : Bx.St) : Bx.St := { s with slots := s.slots.map clr }
theorem tn_le {tab : ByteArray} (hT : ChkR tab 0 0) : tn tab ≤ 4 := by
  rcases hT with ⟨_, _, h2⟩ | ⟨_, _, _, h2⟩ | ⟨_, _, _, _, _, _, _, h2⟩ | ⟨_, _, _, _, _, h2⟩ | ⟨_, x, _, _, _, _⟩ <;> omega
/-- One that comes, with its number; the state behind it. -/
theorem arr_slot {s : Bx.St} {p : Nat × Int} (h : s.slots.length < 8) : Bx.arr s p = { Bx.with' s (s.slots ++ [Bx.slotOf p s.next]) 0 ByteArray.empty with next := s.next + 1 } := by
  rw [Bx.arr, if_pos h]; rfl
theorem arr_end {s : Bx.St} {p : Nat × Int} (h : ¬ s.slots.length < 8) (hn : 0 < s.next) : Bx.arr s p = { Bx.with' s s.slots s.next Bx.hS with next := s.next + 1 } := by
  rw [Bx.arr, if_neg h, Bx.with', if_pos hn]
theorem arr_len {s : Bx.St} (p : Nat × Int) (h : s.slots.length ≤ 8) (he : s.ends.length ≤ 6) : (Bx.arr s p).slots.length ≤ 8 ∧ (Bx.arr s p).ends.length ≤ 6 := by
  unfold Bx.arr; split
  · simp; omega
  · simp [Bx.push]; omega
theorem arr_next (s : Bx.St) (p : Nat × Int) : (Bx.arr s p).next = s.next + 1 := by unfold Bx.arr; split <;> rfl
theorem arrs_ok (l : List (Nat × Int)) (s : Bx.St) (h : s.slots.length ≤ 8) (he : s.ends.length ≤ 6) : (l.foldl Bx.arr s).slots.length ≤ 8 ∧ (l.foldl Bx.arr s).ends.length ≤ 6 ∧ (l.foldl Bx.arr s).next = s.next + l.length := by
  induction l generalizing s with
  | nil => exact ⟨h, he, by simp⟩
  | cons a r ih =>
    have h1 := arr_len a h he
    obtain ⟨i1, i2, i3⟩ := ih (Bx.arr s a) h1.1 h1.2
    refine ⟨i1, i2, ?_⟩
    rw [List.foldl_cons, i3, arr_next, List.length_cons]; push_cast; omega
theorem arrs_take (l : List (Nat × Int)) (s : Bx.St) (k : Nat) (h : k < l.length) : (l.take (k + 1)).foldl Bx.arr s = Bx.arr ((l.take k).foldl Bx.arr s) l[k] := by
  rw [List.take_succ_eq_append_getElem h, List.foldl_append]; rfl

theorem find_bd (s : Bx.St) (n : Int) : -1 ≤ Bx.find s n ∧ Bx.find s n < s.slots.length := Bx.findK_lt s.slots n s.slots.length

theorem hA_eq : Bx.hA = { data := #[97] } := by decide
theorem hK_eq : Bx.hK = { data := #[107] } := by decide
theorem hD_eq : Bx.hD = { data := #[100] } := by decide
theorem hS_eq : Bx.hS = { data := #[115] } := by decide
end Go.Proofs.YtdajolpoiffimaaDoor

namespace Go.Proofs.YtdajolpoiffimaaDoor
namespace Px
open Bx (Ln Cnt Lt)

/-- What comes behind the minute t, and at t from the line i on. -/
structure From (ls : List Ln) (m t : Int) (i : Nat) (out : List (Nat × Int)) : Prop where
  ord : out.Pairwise Lt
  mem : ∀ j u, (j, u) ∈ out ↔ (t < u ∨ (u = t ∧ i ≤ j)) ∧ u ≤ m ∧ ∃ h : j < ls.length, Cnt ls[j] m u
theorem From.start (ls : List Ln) (m : Int) : From ls m m ls.length [] :=
  ⟨List.Pairwise.nil, fun j u => ⟨(fun h => by cases h), (fun ⟨h1, h2, h3, _⟩ => by omega)⟩⟩
theorem From.yes {ls : List Ln} {m t : Int} {i : Nat} {out : List (Nat × Int)} (h : From ls m t (i + 1) out) (hi : i < ls.length) (ht : t ≤ m) (hc : Cnt ls[i] m t) : From ls m t i ((i, t) :: out) := by
  refine ⟨List.pairwise_cons.2 ⟨fun p hp => ?_, h.ord⟩, fun j u => ?_⟩
  · obtain ⟨j, u⟩ := p
    obtain ⟨h1, _, _⟩ := (h.mem j u).1 hp
    show t < u ∨ (t = u ∧ i < j)
    omega
  · rw [List.mem_cons, h.mem]
    constructor
    · rintro (e | ⟨h1, h2, h3⟩)
      · cases e; exact ⟨Or.inr ⟨rfl, Nat.le_refl _⟩, ht, hi, hc⟩
      · exact ⟨by omega, h2, h3⟩
    · rintro ⟨h1, h2, h3⟩
      by_cases q : j = i ∧ u = t
      · left; rw [q.1, q.2]
      · right; exact ⟨by omega, h2, h3⟩
theorem From.no {ls : List Ln} {m t : Int} {i : Nat} {out : List (Nat × Int)} (h : From ls m t (i + 1) out) (hi : i < ls.length) (hc : ¬ Cnt ls[i] m t) : From ls m t i out := by
  refine ⟨h.ord, fun j u => ?_⟩
  rw [h.mem]
  constructor
  · rintro ⟨h1, h2, h3⟩; exact ⟨by omega, h2, h3⟩
  · rintro ⟨h1, h2, h3, h4⟩
    refine ⟨?_, h2, h3, h4⟩
    by_cases q : j = i ∧ u = t
    · obtain ⟨rfl, rfl⟩ := q; exact absurd h4 hc
    · omega
theorem From.down {ls : List Ln} {m t : Int} {out : List (Nat × Int)} (h : From ls m t 0 out) : From ls m (t - 1) ls.length out := by
  refine ⟨h.ord, fun j u => ?_⟩
  rw [h.mem]
  constructor
  · rintro ⟨h1, h2, h3⟩; exact ⟨by omega, h2, h3⟩
  · rintro ⟨h1, h2, h3, h4⟩; exact ⟨by omega, h2, h3, h4⟩
theorem From.done {ls : List Ln} {a m : Int} {out : List (Nat × Int)} (h : From ls m (a - 1) ls.length out) : out = Bx.comes ls a m := by
  refine Bx.ComesR.uniq (a := a) (m := m) (ls := ls) ⟨h.ord, fun j u => ?_⟩ (Bx.comes_ok ls a m)
  rw [h.mem]
  constructor
  · rintro ⟨h1, h2, h3, h4⟩; exact ⟨h3, by omega, h2, h4⟩
  · rintro ⟨h3, h1, h2, h4⟩; exact ⟨by omega, h2, h3, h4⟩
open Classical in
/-- Was a line due behind a minute? -/
noncomputable def metB (l : Ln) (m t : Int) : Bool := decide (∃ u, t < u ∧ u ≤ m ∧ l.due u = true)
open Classical in
theorem met_start (l : Ln) (m : Int) : metB l m m = false := by
  unfold metB; exact decide_eq_false (fun ⟨u, h1, h2, _⟩ => by omega)
open Classical in
theorem met_yes {l : Ln} {m t : Int} (h : l.due t = true) (ht : t ≤ m) : metB l m (t - 1) = true := by
  unfold metB; exact decide_eq_true ⟨t, by omega, ht, h⟩
open Classical in
theorem met_no {l : Ln} {m t : Int} (h : l.due t = false) : metB l m (t - 1) = metB l m t := by
  unfold metB
  apply decide_eq_decide.2
  constructor
  · rintro ⟨u, h1, h2, h3⟩
    by_cases q : u = t
    · subst q; rw [h] at h3; cases h3
    · exact ⟨u, by omega, h2, h3⟩
  · rintro ⟨u, h1, h2, h3⟩; exact ⟨u, by omega, h2, h3⟩
/-- Does a minute at which the line is due count? -/
def cntB (c : Int) (now later : Bool) : Bool := if c = 108 then !later else if c = 110 then now else true
open Classical in
theorem cnt_iff {l : Ln} {m t : Int} (h : l.due t = true) : cntB l.catch' (t == m) (metB l m t) = true ↔ Cnt l m t := by
  unfold cntB Cnt metB
  by_cases q : l.catch' = 108
  · rw [if_pos q]
    constructor
    · intro e
      have : ¬ ∃ u, t < u ∧ u ≤ m ∧ l.due u = true := by simpa using e
      refine ⟨h, fun q' => by omega, fun _ u h1 h2 => ?_⟩
      cases hd : l.due u
      · rfl
      · exact absurd ⟨u, h1, h2, hd⟩ this
    · rintro ⟨_, _, h3⟩
      have : ¬ ∃ u, t < u ∧ u ≤ m ∧ l.due u = true := fun ⟨u, h1, h2, hd⟩ => by rw [h3 q u h1 h2] at hd; cases hd
      simpa using this
  · rw [if_neg q]
    by_cases q' : l.catch' = 110
    · rw [if_pos q']
      constructor
      · intro e; exact ⟨h, fun _ => by simpa using e, fun e' => absurd e' q⟩
      · rintro ⟨_, h2, _⟩; simpa using h2 q'
    · rw [if_neg q']
      exact ⟨fun _ => ⟨h, fun e => absurd e q', fun e => absurd e q⟩, fun _ => rfl⟩
theorem cnt_due {l : Ln} {m t : Int} (h : l.due t = false) : ¬ Cnt l m t := fun ⟨h1, _⟩ => by rw [h] at h1; cases h1
end Px
end Go.Proofs.YtdajolpoiffimaaDoor

namespace Go.Proofs.YtdajolpoiffimaaDoor
namespace Px

/-- No number twice. -/
def Dist (l : List Sl) : Prop := l.Pairwise fun a b => a.num ≠ b.num
theorem Ok.dist {s : St} (h : Ok s) : Dist s.slots := h.rise.imp fun h => by omega
theorem Dist.at {l : List Sl} (h : Dist l) {i j : Nat} (hi : i < l.length) (hj : j < l.length) (e : l[i].num = l[j].num) : i = j := by
  rcases Nat.lt_trichotomy i j with c | c | c
  · exact absurd e (List.pairwise_iff_getElem.1 h i j hi hj c)
  · exact c
  · exact absurd e.symm (List.pairwise_iff_getElem.1 h j i hj hi c)
theorem findK_no (l : List Bx.Sl) (n : Int) (h : ∀ x ∈ l, ¬ x.num = n) (k : Nat) : Bx.findK l n k = -1 := by
  induction k with
  | zero => rfl
  | succ k ih =>
    rw [Bx.findK, ih]
    split
    · rename_i e
      rcases Nat.lt_or_ge k l.length with c | c
      · rw [List.getElem?_eq_getElem c] at e; simp at e; exact absurd e (h _ (List.getElem_mem c))
      · rw [List.getElem?_eq_none c] at e; cases e
    · rfl
theorem findK_at (l : List Bx.Sl) (n : Int) (i : Nat) (hi : i < l.length) (e : l[i].num = n) (h : ∀ j (hj : j < l.length), l[j].num = n → j = i) (k : Nat) (hk : i < k) : Bx.findK l n k = i := by
  induction k with
  | zero => omega
  | succ k ih =>
    rw [Bx.findK]
    split
    · rename_i e'
      rcases Nat.lt_or_ge k l.length with c | c
      · rw [List.getElem?_eq_getElem c] at e'; simp at e'; rw [h k c e']
      · rw [List.getElem?_eq_none c] at e'; cases e'
    · rename_i e'
      by_cases q : i = k
      · subst q
        rw [List.getElem?_eq_getElem hi] at e'
        simp [e] at e'
      · exact ih (by omega)
theorem find_none {s : St} {n : Int} (h : find s.slots n = none) : Bx.find (abs s) n = -1 := by
  refine findK_no _ _ ?_ _
  intro x hx
  obtain ⟨y, hy, rfl⟩ := List.mem_map.1 hx
  have := List.find?_eq_none.1 h y hy
  simpa [absS] using this
theorem find_some {s : St} {n : Int} {x : Sl} (hd : Dist s.slots) (h : find s.slots n = some x) : ∃ i, ∃ hi : i < s.slots.length, s.slots[i] = x ∧ x.num = n ∧ Bx.find (abs s) n = i := by
  have hx := List.mem_of_find?_eq_some h
  have hn : x.num = n := by simpa using List.find?_some h
  obtain ⟨i, hi, rfl⟩ := List.mem_iff_getElem.1 hx
  refine ⟨i, hi, rfl, hn, ?_⟩
  have hl : (abs s).slots.length = s.slots.length := by simp [abs]
  refine findK_at _ _ i (by rw [hl]; exact hi) ?_ ?_ _ (by rw [hl]; exact hi)
  · simp [abs, absS, hn]
  · intro j hj e
    have hj' : j < s.slots.length := by rw [hl] at hj; exact hj
    refine hd.at hj' hi ?_
    rw [hn]; simpa [abs, absS] using e
theorem skipK_erase (l : List Bx.Sl) (i k : Nat) (hk : k ≤ l.length) : Bx.skipK l i k = (l.take k).eraseIdx i := by
  induction k with
  | zero => simp [Bx.skipK]
  | succ k ih =>
    have hk' : k < l.length := by omega
    rw [Bx.skipK, ih (by omega), List.take_succ_eq_append_getElem hk', List.getElem?_eq_getElem hk']
    by_cases q : k = i
    · subst q
      rw [if_pos rfl, List.eraseIdx_of_length_le (by simp; omega), List.eraseIdx_append_of_length_le (by simp; omega)]
      simp [Nat.min_eq_left (by omega : k ≤ l.length)]
    · rw [if_neg (by omega)]
      by_cases c : i < k
      · rw [List.eraseIdx_append_of_lt_length (by simp; omega)]; rfl
      · rw [List.eraseIdx_of_length_le (by simp; omega), List.eraseIdx_append_of_length_le (by simp; omega)]
        rw [List.eraseIdx_of_length_le (by simp; omega)]; rfl
theorem without_erase (l : List Bx.Sl) (i : Nat) : Bx.withoutL l i = l.eraseIdx i := by
  rw [Bx.withoutL, skipK_erase l i _ (Nat.le_refl _), List.take_length]
theorem skip_erase {l : List Sl} (hd : Dist l) {i : Nat} (hi : i < l.length) : skip l l[i].num = l.eraseIdx i := by
  induction l generalizing i with
  | nil => simp at hi
  | cons a r ih =>
    have hd' := List.pairwise_cons.1 hd
    cases i with
    | zero =>
      simp only [List.getElem_cons_zero, List.eraseIdx_cons_zero]
      unfold skip
      rw [List.filter_cons_of_neg (by simp), List.filter_eq_self]
      intro x hx
      have := hd'.1 x hx
      simp; exact fun e => this e.symm
    | succ i =>
      simp only [List.getElem_cons_succ, List.eraseIdx_cons_succ]
      have hi' : i < r.length := by simpa using hi
      have := hd'.1 r[i] (List.getElem_mem hi')
      unfold skip
      rw [List.filter_cons_of_pos (by simpa using this)]
      have := ih hd'.2 hi'
      unfold skip at this
      rw [this]
theorem repl_set {l : List Sl} (hd : Dist l) {i : Nat} (hi : i < l.length) (x : Sl) (hx : x.num = l[i].num) : repl l x = l.set i x := by
  apply List.ext_getElem
  · simp [repl]
  · intro j h1 h2
    have hj : j < l.length := by simpa [repl] using h1
    by_cases q : i = j
    · subst q; simp [repl, hx]
    · rw [List.getElem_set_ne q]
      have : ¬ l[j].num = l[i].num := fun e => q (hd.at hi hj e.symm)
      simp [repl, hx, this]
theorem map_erase {α β : Type} (f : α → β) (l : List α) (i : Nat) : (l.eraseIdx i).map f = (l.map f).eraseIdx i := by
  induction l generalizing i with
  | nil => simp
  | cons a r ih => cases i with
    | zero => simp
    | succ i => simp [ih]
theorem abs_skip {s : St} (hd : Dist s.slots) {i : Nat} (hi : i < s.slots.length) : (skip s.slots s.slots[i].num).map absS = Bx.withoutL (abs s).slots i := by
  rw [skip_erase hd hi, without_erase]
  exact map_erase _ _ _
theorem abs_repl {s : St} (hd : Dist s.slots) {i : Nat} (hi : i < s.slots.length) (x : Sl) (hx : x.num = s.slots[i].num) : (repl s.slots x).map absS = Bx.putL (abs s).slots i (absS x) := by
  rw [repl_set hd hi x hx, putL_set]
  simp only [abs]
  rw [List.map_set]
theorem slAt_abs {s : St} {i : Nat} (hi : i < s.slots.length) : Bx.slAt (abs s) i = absS s.slots[i] := by simp [Bx.slAt, abs, hi]
theorem opt_abs (s : St) (l : Int) (i : Nat) : Bx.opt (abs s) l i = opt s l i := rfl
/-- The changes are the same. -/
theorem cancel_abs {s : St} (hd : Dist s.slots) (n : Int) (hn : ∀ x ∈ s.slots, 1 ≤ x.num) :
    ((cancelP s n).2 = 8 ∧ Bx.find (abs s) n < 0) ∨ ((cancelP s n).2 = 0 ∧ Bx.aboutP (abs s) 75 n = (abs (cancelP s n).1, true)) := by
  unfold cancelP
  cases h : find s.slots n with
  | none => left; rw [find_none h]; exact ⟨rfl, by omega⟩
  | some x =>
    right
    obtain ⟨i, hi, rfl, hxn, hF⟩ := find_some hd h
    refine ⟨rfl, ?_⟩
    unfold Bx.aboutP
    rw [hF, if_neg (by omega), if_pos rfl]
    have h1 := hn _ (List.getElem_mem hi)
    simp only [Bx.with', ended]
    rw [if_pos (by omega), ← abs_skip hd hi, hxn]
    rfl
theorem done_abs {s : St} (hd : Dist s.slots) (n : Int) (hn : ∀ x ∈ s.slots, 1 ≤ x.num) :
    ((doneP s n).2 = 8 ∧ Bx.find (abs s) n < 0) ∨ ((doneP s n).2 = 9 ∧ ∃ i : Nat, Bx.find (abs s) n = i ∧ (Bx.slAt (abs s) i).runs = false) ∨ ((doneP s n).2 = 0 ∧ Bx.aboutP (abs s) 68 n = (abs (doneP s n).1, true)) := by
  unfold doneP
  cases h : find s.slots n with
  | none => left; rw [find_none h]; exact ⟨rfl, by omega⟩
  | some x =>
    right
    obtain ⟨i, hi, rfl, hxn, hF⟩ := find_some hd h
    by_cases hs : s.slots[i].step ≤ 0
    · left; simp only [hs, if_true]; exact ⟨trivial, i, hF, by rw [slAt_abs hi]; simp [absS]; omega⟩
    · right
      simp only [hs, if_false]
      refine ⟨trivial, ?_⟩
      unfold Bx.aboutP
      rw [hF, if_neg (by omega), if_neg (by omega), if_neg (by omega), if_pos rfl]
      have h1 := hn _ (List.getElem_mem hi)
      simp only [Bx.with', ended, Int.toNat_natCast]
      rw [if_pos (by omega), ← abs_skip hd hi, hxn, slAt_abs hi]
      have : (absS s.slots[i]).runs = true := by simp [absS]; omega
      rw [this]; rfl
theorem delay_bd (k : Int) : 2 ≤ Bx.delay k ∧ Bx.delay k ≤ 10 := by
  unfold Bx.delay; split
  · omega
  · split
    · omega
    · split <;> omega
theorem fail_abs {s : St} (hd : Dist s.slots) (n : Int) (hn : ∀ x ∈ s.slots, 1 ≤ x.num) (ha : ∀ x ∈ s.slots, x.att ≤ opt s x.line 2 - 48) :
    ((failP s n).2 = 8 ∧ Bx.find (abs s) n < 0) ∨ ((failP s n).2 = 9 ∧ ∃ i : Nat, Bx.find (abs s) n = i ∧ (Bx.slAt (abs s) i).runs = false) ∨ ((failP s n).2 = 0 ∧ Bx.aboutP (abs s) 70 n = (abs (failP s n).1, true)) := by
  unfold failP
  cases h : find s.slots n with
  | none => left; rw [find_none h]; exact ⟨rfl, by omega⟩
  | some x =>
    right
    obtain ⟨i, hi, rfl, hxn, hF⟩ := find_some hd h
    by_cases hs : s.slots[i].step ≤ 0
    · left; simp only [hs, if_true]; exact ⟨trivial, i, hF, by rw [slAt_abs hi]; simp [absS]; omega⟩
    · right
      have h1 := hn _ (List.getElem_mem hi)
      have h2 := ha _ (List.getElem_mem hi)
      have hr : (absS s.slots[i]).runs = true := by simp [absS]; omega
      simp only [hs, if_false]
      have e : Bx.aboutP (abs s) 70 n = (Bx.failed (abs s) i, true) := by
        unfold Bx.aboutP
        rw [hF, if_neg (by omega), if_neg (by omega), if_neg (by omega), if_neg (by omega), if_pos rfl]
        simp only [Int.toNat_natCast]
        rw [slAt_abs hi, hr]
      rw [e]
      unfold Bx.failed
      rw [slAt_abs hi, opt_abs]
      have e1 : (absS s.slots[i]).att = s.slots[i].att := rfl
      have e2 : (absS s.slots[i]).line = s.slots[i].line := rfl
      have e3 : (absS s.slots[i]).num = s.slots[i].num := rfl
      rw [e1, e2, e3]
      by_cases q : opt s s.slots[i].line 2 - 48 ≤ s.slots[i].att
      · rw [if_pos q, if_pos (by omega)]
        refine ⟨rfl, ?_⟩
        simp only [Bx.with', ended]
        rw [if_pos (by omega), ← abs_skip hd hi, hxn]
        rfl
      · rw [if_neg q, if_neg (by omega)]
        refine ⟨rfl, ?_⟩
        have := abs_repl hd hi (again s s.slots[i]) rfl
        simp only [Bx.with']
        rw [if_neg (by omega)]
        show _ = (({ tab := s.tab, clock := s.clock, next := s.next, slots := (repl s.slots (again s s.slots[i])).map absS, ends := s.ends } : Bx.St), true)
        rw [this]
        rfl
theorem runs_abs (s : St) : Bx.running (abs s) = runs s := by
  have : ∀ k, k ≤ s.slots.length → Bx.runK (abs s) k = ((s.slots.take k).filter fun x => decide (0 < x.step)).length := by
    intro k hk
    induction k with
    | zero => rfl
    | succ k ih =>
      have hk' : k < s.slots.length := by omega
      rw [Bx.runK, ih (by omega), slAt_abs hk', List.take_succ_eq_append_getElem hk', List.filter_append, List.length_append]
      congr 1
      by_cases q : 0 < s.slots[k].step <;> simp [absS, q]
  unfold Bx.running runs
  have hl : (abs s).slots.length = s.slots.length := by simp [abs]
  rw [hl, this _ (Nat.le_refl _), List.take_length]
theorem lock_abs {s : St} {i : Nat} (hi : i < s.slots.length) (hw : s.slots[i].step ≤ 0) : Bx.locked (abs s) i = lockP s s.slots[i].line := by
  have : ∀ k, k ≤ s.slots.length → Bx.lockK (abs s) i k = ((s.slots.take k).any fun x => decide (x.line = s.slots[i].line) && decide (0 < x.step)) := by
    intro k hk
    induction k with
    | zero => rfl
    | succ k ih =>
      have hk' : k < s.slots.length := by omega
      rw [Bx.lockK, ih (by omega), slAt_abs hk', slAt_abs hi, List.take_succ_eq_append_getElem hk', List.any_append]
      congr 1
      by_cases q : k = i
      · subst q; simp [absS]; omega
      · simp [absS, q]; rfl
  unfold Bx.locked lockP
  have hl : (abs s).slots.length = s.slots.length := by simp [abs]
  rw [hl, this _ (Nat.le_refl _), List.take_length, slAt_abs hi]
  rfl
end Px
end Go.Proofs.YtdajolpoiffimaaDoor

namespace Go.Proofs.YtdajolpoiffimaaDoor

/-- The last k bytes. -/
def lastN (k : Nat) (l : List UInt8) : List UInt8 := l.drop (l.length - k)
theorem lastN_app (k : Nat) (a b : List UInt8) : lastN k (lastN k a ++ b) = lastN k (a ++ b) := by
  unfold lastN
  have e : (List.drop (a.length - k) a ++ b) = (a ++ b).drop (a.length - k) := by rw [List.drop_append_of_le_length (by omega)]
  rw [e, List.drop_drop]
  congr 1
  simp; omega
theorem lastN_short {k : Nat} {l : List UInt8} (h : l.length ≤ k) : lastN k l = l := by
  unfold lastN; rw [Nat.sub_eq_zero_of_le h]; rfl
theorem behL_none {w : List UInt8} {a : UInt8} {r : List UInt8} (h : behL w (a :: r) = none) : w.isPrefixOf (a :: r) = false ∧ behL w r = none := by
  rw [behL] at h
  split at h
  · cases h
  · rename_i q; exact ⟨Bool.eq_false_iff.2 q, h⟩
theorem beh_last (w d t : List UInt8) (hw : 0 < w.length) (h : behL w d = none) : behL w (lastN (w.length - 1) d ++ t) = behL w (d ++ t) := by
  induction d with
  | nil => simp [lastN]
  | cons a r ih =>
    by_cases q : (a :: r).length ≤ w.length - 1
    · rw [lastN_short q]
    · obtain ⟨h1, h2⟩ := behL_none h
      have e : lastN (w.length - 1) (a :: r) = lastN (w.length - 1) r := by
        unfold lastN
        have : (a :: r).length - (w.length - 1) = (r.length - (w.length - 1)) + 1 := by simp at q ⊢; omega
        rw [this]; rfl
      rw [e, ih h2]
      have n1 : w.isPrefixOf (a :: r ++ t) = false := by
        cases c : w.isPrefixOf (a :: r ++ t)
        · rfl
        · exfalso
          rw [List.isPrefixOf_iff_prefix] at c
          have hp : w <+: a :: r := by
            refine List.prefix_of_prefix_length_le c (List.prefix_append _ _) ?_
            simp at q ⊢; omega
          rw [← List.isPrefixOf_iff_prefix, h1] at hp; cases hp
      rw [List.cons_append] at n1 ⊢
      rw [behL_no n1]

namespace Px
/-- The end of a text. -/
def lastB (h : ByteArray) (k : Nat) : ByteArray := if k < h.size then h.extract (h.size - k) h.size else h
theorem lastB_list (h : ByteArray) (k : Nat) : (lastB h k).data.toList = lastN k h.data.toList := by
  have hl : h.data.toList.length = h.size := by simp
  unfold lastB; split
  · rw [ext_list, lastN, hl, List.take_of_length_le (by simp)]
  · rw [lastN_short (by omega)]
theorem lastB_size (h : ByteArray) (k : Nat) : (lastB h k).size ≤ k ∨ lastB h k = h := by
  unfold lastB; split
  · left; simp [ByteArray.size_extract]; omega
  · right; rfl
abbrev says (s : ByteArray) : Bool := sayB s
/-- From step to step. -/
def goF (L : List ByteArray) (c : Int) : Nat → Sl → Sl × ByteArray
  | 0, x => (x, ByteArray.empty)
  | n + 1, x => if (L.length : Int) < x.step then (x, ByteArray.empty)
    else if says (L.getD (x.step - 1).toNat ByteArray.empty) = true then
      ((goF L c n { x with step := x.step + 1 }).1, wordAt L (x.step - 1).toNat ++ (goF L c n { x with step := x.step + 1 }).2)
    else if behB x.heard (wordAt L (x.step - 1).toNat) = false then ({ x with heard := lastB x.heard ((wordAt L (x.step - 1).toNat).size - 1) }, ByteArray.empty)
    else goF L c n { x with step := x.step + 1, heard := behS x.heard (wordAt L (x.step - 1).toNat), ans := c }
theorem ba_eq {a b : ByteArray} (h : a.data.toList = b.data.toList) : a = b := by
  cases a; cases b; simp at h; simp [h]
theorem ba_nil_app (a : ByteArray) : ByteArray.empty ++ a = a := by simp
theorem ba_app_nil (a : ByteArray) : a ++ ByteArray.empty = a := by simp
/-- What is said first. -/
theorem goF_says (L : List ByteArray) (c : Int) : ∀ (m i n : Nat) (x : Sl), L.length - i = m → i ≤ L.length → x.step = (i : Int) + 1 → m ≤ n →
    ∃ n', n - (saysL (L.drop i)).2 ≤ n' ∧ goF L c n x = ((goF L c n' { x with step := ((i + (saysL (L.drop i)).2 : Nat) : Int) + 1 }).1, (saysL (L.drop i)).1 ++ (goF L c n' { x with step := ((i + (saysL (L.drop i)).2 : Nat) : Int) + 1 }).2) := by
  intro m
  induction m with
  | zero =>
    intro i n x hm hi hx _
    have e : L.drop i = [] := List.drop_eq_nil_of_le (by omega)
    refine ⟨n, by simp [e, saysL], ?_⟩
    have hx' : { x with step := ((i + (saysL (L.drop i)).2 : Nat) : Int) + 1 } = x := by
      rw [e]; cases x; simp [saysL] at hx ⊢; omega
    rw [hx', e]; simp [saysL]
  | succ m ih =>
    intro i n x hm hi hx hn
    have hil : i < L.length := by omega
    rw [List.drop_eq_getElem_cons hil, saysL]
    by_cases q : L[i].data.toList.head? = some 60
    · rw [if_pos q]
      refine ⟨n, by omega, ?_⟩
      have hx' : { x with step := ((i + 0 : Nat) : Int) + 1 } = x := by
        cases x; simp at hx ⊢; omega
      rw [hx']; simp
    · rw [if_neg q]
      obtain ⟨n, rfl⟩ : ∃ k, n = k + 1 := ⟨n - 1, by omega⟩
      obtain ⟨n', h1, h2⟩ := ih (i + 1) n { x with step := x.step + 1 } (by omega) (by omega) (by rw [hx]; simp) (by omega)
      refine ⟨n', by simp only; omega, ?_⟩
      have e1 : (x.step - 1).toNat = i := by omega
      have e2 : L.getD i ByteArray.empty = L[i] := by simp [hil]
      have e3 : says L[i] = true := by unfold says sayB; simp [q]
      rw [goF, if_neg (by omega), e1, e2, if_pos e3, h2]
      have e4 : i + 1 + (saysL (L.drop (i + 1))).2 = i + ((saysL (L.drop (i + 1))).2 + 1) := by omega
      have e5 : wordAt L i = L[i].extract 1 L[i].size := by simp [wordAt, hil]
      simp only [e4, e5, ByteArray.append_assoc]
theorem saysL_stop (L : List ByteArray) (h : (saysL L).2 < L.length) : says L[(saysL L).2] = false := by
  induction L with
  | nil => simp at h
  | cons s r ih =>
    by_cases q : s.data.toList.head? = some 60
    · have e : saysL (s :: r) = (ByteArray.empty, 0) := by rw [saysL, if_pos q]
      simp only [e, List.getElem_cons_zero]
      unfold says sayB; simp [q]
    · have e : (saysL (s :: r)).2 = (saysL r).2 + 1 := by rw [saysL, if_neg q]
      have h' : (saysL r).2 < r.length := by rw [e] at h; simpa using h
      simp only [e, List.getElem_cons_succ]
      exact ih h'
theorem saysL_le (L : List ByteArray) : (saysL L).2 ≤ L.length := by
  induction L with
  | nil => simp [saysL]
  | cons s r ih => rw [saysL]; split <;> simp <;> omega
theorem stop_at (L : List ByteArray) (i : Nat) (h : i + (saysL (L.drop i)).2 < L.length) : says L[i + (saysL (L.drop i)).2] = false := by
  have := saysL_stop (L.drop i) (by rw [List.length_drop]; omega)
  rw [List.getElem_drop] at this; exact this
/-- A slot of the program's and a talk of the document's, at rest: at a step that is to be heard, whose word stands not in what was heard; the program keeps only its end. -/
structure Rest (L : List ByteArray) (x : Sl) (t : Bx.Tk) (a : Nat) : Prop where
  at' : t.at' = a
  le : a ≤ L.length
  step : x.step = (a : Int) + 1
  ans : x.ans = t.since
  hear : ∀ h : a < L.length, says L[a] = false ∧ behL (wordAt L a).data.toList t.heard.data.toList = none ∧ x.heard.data.toList = lastN ((wordAt L a).size - 1) t.heard.data.toList
/-- The same but for what stands in memory beside. -/
def Like (x y : Sl) : Prop := y.num = x.num ∧ y.line = x.line ∧ y.minute = x.minute ∧ y.att = x.att ∧ y.frm = x.frm
theorem Like.refl (x : Sl) : Like x x := ⟨rfl, rfl, rfl, rfl, rfl⟩
theorem Like.trans {x y z : Sl} (h : Like x y) (h' : Like y z) : Like x z := ⟨h'.1.trans h.1, h'.2.1.trans h.2.1, h'.2.2.1.trans h.2.2.1, h'.2.2.2.1.trans h.2.2.2.1, h'.2.2.2.2.trans h.2.2.2.2⟩
theorem hear_same (L : List ByteArray) (c : Int) : ∀ (m a fd fp : Nat) (x : Sl) (t : Bx.Tk), L.length - a = m → m ≤ fd → m + 1 ≤ fp → t.at' = a → a ≤ L.length → x.step = (a : Int) + 1 → x.ans = t.since →
    (∀ h : a < L.length, says L[a] = false ∧ behL (wordAt L a).data.toList x.heard.data.toList = behL (wordAt L a).data.toList t.heard.data.toList ∧
      (behL (wordAt L a).data.toList t.heard.data.toList = none → lastN ((wordAt L a).size - 1) x.heard.data.toList = lastN ((wordAt L a).size - 1) t.heard.data.toList)) →
    (goF L c fp x).2 = (hearF L c fd t).2 ∧ (∃ a', Rest L (goF L c fp x).1 (hearF L c fd t).1 a') ∧ Like x (goF L c fp x).1 ∧ (hearF L c fd t).1.num = t.num := by
  intro m
  induction m using Nat.strongRecOn with
  | ind m ih =>
    intro a fd fp x t hm hfd hfp hat hal hst han hh
    obtain ⟨fp, rfl⟩ : ∃ k, fp = k + 1 := ⟨fp - 1, by omega⟩
    by_cases ha : a < L.length
    · obtain ⟨fd, rfl⟩ : ∃ k, fd = k + 1 := ⟨fd - 1, by omega⟩
      obtain ⟨h1, h2, h3⟩ := hh ha
      have e1 : (x.step - 1).toNat = a := by omega
      have e2 : L.getD a ByteArray.empty = L[a] := by simp [ha]
      have e3 : t.at'.toNat = a := by omega
      have G : goF L c (fp + 1) x = if behB x.heard (wordAt L a) = false then ({ x with heard := lastB x.heard ((wordAt L a).size - 1) }, ByteArray.empty) else goF L c fp { x with step := x.step + 1, heard := behS x.heard (wordAt L a), ans := c } := by
        rw [goF, if_neg (by omega), e1, e2, if_neg (by rw [h1]; simp)]
      have H : hearF L c (fd + 1) t = if behB t.heard (wordAt L a) = false then (t, ByteArray.empty)
          else ((hearF L c fd ⟨t.num, ((a + 1 + (saysL (L.drop (a + 1))).2 : Nat) : Int), c, behS t.heard (wordAt L a)⟩).1, (saysL (L.drop (a + 1))).1 ++ (hearF L c fd ⟨t.num, ((a + 1 + (saysL (L.drop (a + 1))).2 : Nat) : Int), c, behS t.heard (wordAt L a)⟩).2) := by
        rw [hearF, if_neg (by omega), e3]
      rw [G, H]
      have eB : behB x.heard (wordAt L a) = behB t.heard (wordAt L a) := by unfold behB; rw [h2]
      have eS : behS x.heard (wordAt L a) = behS t.heard (wordAt L a) := by unfold behS; rw [h2]
      rw [eB, eS]
      by_cases q : behB t.heard (wordAt L a) = false
      · rw [if_pos q, if_pos q]
        have hn : behL (wordAt L a).data.toList t.heard.data.toList = none := by
          unfold behB at q; simpa using q
        exact ⟨rfl, ⟨a, hat, hal, hst, han, fun _ => ⟨h1, hn, by rw [lastB_list]; exact h3 hn⟩⟩, ⟨rfl, rfl, rfl, rfl, rfl⟩, rfl⟩
      · rw [if_neg q, if_neg q]
        obtain ⟨n', hn', hg⟩ := goF_says L c (L.length - (a + 1)) (a + 1) fp { x with step := x.step + 1, heard := behS t.heard (wordAt L a), ans := c } rfl (by omega) (by simp; omega) (by omega)
        rw [hg]
        have hk := saysL_le (L.drop (a + 1))
        rw [List.length_drop] at hk
        obtain ⟨r1, r2, r3, r4⟩ := ih (L.length - (a + 1 + (saysL (L.drop (a + 1))).2)) (by omega) (a + 1 + (saysL (L.drop (a + 1))).2) fd n'
          { x with step := ((a + 1 + (saysL (L.drop (a + 1))).2 : Nat) : Int) + 1, heard := behS t.heard (wordAt L a), ans := c }
          ⟨t.num, ((a + 1 + (saysL (L.drop (a + 1))).2 : Nat) : Int), c, behS t.heard (wordAt L a)⟩ rfl (by omega) (by omega) rfl (by omega) rfl rfl
          (fun h => ⟨stop_at L (a + 1) h, rfl, fun _ => rfl⟩)
        refine ⟨?_, r2, ?_, r4⟩
        · show _ ++ _ = _ ++ _
          rw [r1]
        · exact Like.trans ⟨rfl, rfl, rfl, rfl, rfl⟩ r3
    · have ea : a = L.length := by omega
      have e : hearF L c fd t = (t, ByteArray.empty) := by
        cases fd with
        | zero => rfl
        | succ fd => rw [hearF, if_pos (by omega)]
      rw [goF, if_pos (by omega), e]
      exact ⟨rfl, ⟨a, hat, hal, hst, han, fun h => by omega⟩, Like.refl _, rfl⟩
end Px
end Go.Proofs.YtdajolpoiffimaaDoor

namespace Go.Proofs.YtdajolpoiffimaaDoor
namespace Px

theorem start_abs {s : St} (hd : Dist s.slots) (n : Int) :
    ((startP s n).2 = 8 ∧ Bx.find (abs s) n < 0) ∨
    (∃ i : Nat, ∃ hi : i < s.slots.length, Bx.find (abs s) n = i ∧ s.slots[i].num = n ∧
      (((startP s n).2 = 9 ∧ 0 < s.slots[i].step) ∨ ((startP s n).2 = 10 ∧ s.slots[i].step ≤ 0 ∧ s.clock < s.slots[i].frm) ∨
       ((startP s n).2 = 11 ∧ s.slots[i].step ≤ 0 ∧ ¬ s.clock < s.slots[i].frm ∧ lockP s s.slots[i].line = true) ∨
       ((startP s n).2 = 0 ∧ s.slots[i].step ≤ 0 ∧ ¬ s.clock < s.slots[i].frm ∧ lockP s s.slots[i].line = false ∧ (startP s n).1 = { s with slots := repl s.slots (beg s s.slots[i]) } ∧
        Bx.aboutP (abs s) 83 n = (abs (startP s n).1, true)))) := by
  unfold startP
  cases h : find s.slots n with
  | none => left; rw [find_none h]; exact ⟨rfl, by omega⟩
  | some x =>
    right
    obtain ⟨i, hi, rfl, hxn, hF⟩ := find_some hd h
    refine ⟨i, hi, hF, hxn, ?_⟩
    by_cases h9 : 0 < s.slots[i].step
    · left; simp only [h9, if_true]; exact ⟨trivial, trivial⟩
    right
    by_cases h10 : s.clock < s.slots[i].frm
    · left; simp only [h9, h10, if_true, if_false]; exact ⟨trivial, by omega, trivial⟩
    right
    cases h11 : lockP s s.slots[i].line
    · right
      have e' := abs_repl hd hi (beg s s.slots[i]) rfl
      simp only [h9, h10, h11, if_false, Bool.false_eq_true]
      refine ⟨trivial, by omega, not_false, trivial, trivial, ?_⟩
      unfold Bx.aboutP
      rw [hF, if_neg (by omega), if_neg (by omega), if_pos rfl]
      simp only [Int.toNat_natCast]
      have hw : ¬ ((Bx.slAt (abs s) i).runs = true ∨ (abs s).clock < (Bx.slAt (abs s) i).frm ∨ Bx.locked (abs s) i = true) := by
        rw [slAt_abs hi, lock_abs hi (by omega), h11]
        rintro (q | q | q)
        · simp [absS] at q; omega
        · exact h10 q
        · cases q
      rw [if_neg hw, slAt_abs hi]
      simp only [Bx.with']
      rw [if_neg (by omega)]
      show _ = (({ tab := s.tab, clock := s.clock, next := s.next, slots := (repl s.slots (beg s s.slots[i])).map absS, ends := s.ends } : Bx.St), true)
      rw [e']
      rfl
    · left; simp only [h9, h10, h11, if_true, if_false]; exact ⟨trivial, by omega, not_false, trivial⟩
theorem arr_abs (s : St) (p : Nat × Int) : abs (arr s p) = Bx.arr (abs s) p := by
  unfold arr Bx.arr
  have hl : (abs s).slots.length = s.slots.length := by simp [abs]
  by_cases q : 8 ≤ s.slots.length
  · rw [if_pos q, if_neg (by omega)]; rfl
  · rw [if_neg q, if_pos (by omega)]
    simp [abs, slotOf, Bx.slotOf, absS]
theorem arrs_abs (l : List (Nat × Int)) (s : St) : abs (l.foldl arr s) = l.foldl Bx.arr (abs s) := by
  induction l generalizing s with
  | nil => rfl
  | cons p r ih => rw [List.foldl_cons, List.foldl_cons, ih, arr_abs]
theorem comes_abs (s : St) (m : Int) : Bx.comesS (abs s) m = comesP s m := rfl
theorem clock_abs (s : St) (m : Int) (h : (clockP s m).2 = 0) : Bx.clockedP (abs s) m = (abs (clockP s m).1, true) := by
  unfold clockP at h ⊢
  by_cases h4 : m < 0 ∨ 4223371679 < m
  · rw [if_pos h4] at h; cases h
  rw [if_neg h4] at h ⊢
  by_cases h6 : aheadP s m = false
  · rw [if_pos h6] at h; cases h
  rw [if_neg h6] at h ⊢
  by_cases h7 : 10000 < s.next + ((comesP s m).length : Int)
  · rw [if_pos h7] at h; cases h
  rw [if_neg h7]
  have ha : Bx.ahead (abs s) m = true := by
    have : aheadP s m = true := by simpa using h6
    unfold aheadP at this
    have := of_decide_eq_true this
    unfold Bx.ahead
    exact decide_eq_true ⟨by omega, by omega, this.1, this.2⟩
  unfold Bx.clockedP
  rw [if_pos ha, comes_abs, if_pos (by show s.next + _ ≤ _; omega)]
  have := arrs_abs (comesP s m) s
  simp only [← this]
  rfl
theorem clock_err (s : St) (m : Int) : (clockP s m).2 = if m < 0 ∨ 4223371679 < m then 4 else if aheadP s m = false then 6 else if 10000 < s.next + ((comesP s m).length : Int) then 7 else 0 := by
  unfold clockP
  by_cases h4 : m < 0 ∨ 4223371679 < m
  · rw [if_pos h4, if_pos h4]
  rw [if_neg h4, if_neg h4]
  by_cases h6 : aheadP s m = false
  · rw [if_pos h6, if_pos h6]
  rw [if_neg h6, if_neg h6]
  by_cases h7 : 10000 < s.next + ((comesP s m).length : Int)
  · rw [if_pos h7, if_pos h7]
  · rw [if_neg h7, if_neg h7]

/-- A box, as the program keeps it. -/
structure Bo where
  limit : Int
  room : Int
  st : St
  log : ByteArray
/-- The steps of a slot's line. -/
def stepsL (s : St) (x : Sl) : List ByteArray := stepsOf (tl s.tab (x.line - 1).toNat)
/-- A slot that runs, and its talk. -/
def Goes (s : St) (x : Sl) (t : Bx.Tk) : Prop := t.num = x.num ∧ 0 < x.step ∧ ∃ a, a < (stepsL s x).length ∧ Rest (stepsL s x) x t a
/-- The talks and the slots that run. -/
structure Tks (s : St) (l : List Bx.Tk) : Prop where
  dist : l.Pairwise fun a b => a.num ≠ b.num
  of : ∀ t ∈ l, ∃ x ∈ s.slots, Goes s x t
  all : ∀ x ∈ s.slots, 0 < x.step → ∃ t ∈ l, t.num = x.num
/-- A box of the program's and one of the document's. -/
structure Rel (b : Bo) (d : Bx.Bo) : Prop where
  lim : d.limit = b.limit
  room : d.room = b.room
  now : d.now = abs b.st
  txt : d.text = b.log
  tks : Tks b.st d.talks
  ok : Ok b.st
  l1 : 1 ≤ b.limit
  l4 : b.limit ≤ 4
  r0 : 600 ≤ b.room
  r1 : b.room ≤ 4000
  log : (b.log.size : Int) ≤ b.room

theorem Dist.mem {l : List Sl} (h : Dist l) {x y : Sl} (hx : x ∈ l) (hy : y ∈ l) (e : x.num = y.num) : x = y := by
  obtain ⟨i, hi, rfl⟩ := List.mem_iff_getElem.1 hx
  obtain ⟨j, hj, rfl⟩ := List.mem_iff_getElem.1 hy
  have := h.at hi hj e
  subst this; rfl
theorem find_mem {l : List Sl} (hd : Dist l) {x : Sl} (hx : x ∈ l) : find l x.num = some x := by
  unfold find
  cases h : l.find? (fun y => y.num == x.num) with
  | none => have := List.find?_eq_none.1 h x hx; simp at this
  | some y =>
    have hy := List.mem_of_find?_eq_some h
    have hn : y.num = x.num := by simpa using List.find?_some h
    rw [hd.mem hy hx hn]
theorem goesOn_iff {s : St} (hd : Dist s.slots) (t : Bx.Tk) : goesOn (abs s) t = true ↔ ∃ y ∈ s.slots, y.num = t.num ∧ 0 < y.step := by
  unfold goesOn
  cases h : find s.slots t.num with
  | none =>
    rw [find_none h]
    constructor
    · intro q; simp at q
    · rintro ⟨y, hy, hn, _⟩
      rw [← hn, find_mem hd hy] at h; cases h
  | some x =>
    obtain ⟨i, hi, rfl, hxn, hF⟩ := find_some hd h
    rw [hF]
    simp only [Int.toNat_natCast]
    rw [slAt_abs hi]
    constructor
    · intro q; simp [absS] at q; exact ⟨_, List.getElem_mem hi, hxn, q⟩
    · rintro ⟨y, hy, hn, hs⟩
      have := hd.mem hy (List.getElem_mem hi) (by rw [hn, hxn])
      subst this; simp [absS]; exact hs
/-- Talks of slots that do not run any more are over. -/
theorem Tks.hush {s s' : St} {l : List Bx.Tk} (h : Tks s l) (hd : Dist s.slots) (hd' : Dist s'.slots) (ht : s'.tab = s.tab) (hr : ∀ y ∈ s'.slots, 0 < y.step → y ∈ s.slots) : Tks s' (hushL (abs s') l) := by
  refine ⟨h.dist.filter _, ?_, ?_⟩
  · intro t ht'
    obtain ⟨h1, h2⟩ := List.mem_filter.1 ht'
    obtain ⟨y, hy, hn, hs⟩ := (goesOn_iff hd' t).1 h2
    obtain ⟨x, hx, hg⟩ := h.of t h1
    have : y = x := hd.mem (hr y hy hs) hx (by rw [hn, hg.1])
    subst this
    refine ⟨y, hy, hg.1, hs, ?_⟩
    have e : stepsL s' y = stepsL s y := by unfold stepsL; rw [ht]
    rw [e]; exact hg.2.2
  · intro y hy hs
    obtain ⟨t, h1, h2⟩ := h.all y (hr y hy hs) hs
    exact ⟨t, List.mem_filter.2 ⟨h1, (goesOn_iff hd' t).2 ⟨y, hy, h2.symm, hs⟩⟩, h2⟩
end Px
end Go.Proofs.YtdajolpoiffimaaDoor

namespace Go.Proofs.YtdajolpoiffimaaDoor
namespace Px
open Bx (En push hA hD hK hS)

theorem told_one (s : Bx.St) (c : Bx.Ch) : Bx.told s [c] = Bx.tell s c := rfl
theorem do_about (s : Bx.St) (k n : Int) (t : ByteArray) (h1 : ¬ k = 84) (h2 : ¬ k = 67) : Bx.doP s ⟨k, t, n⟩ = Bx.aboutP s k n := by
  unfold Bx.doP; rw [if_neg h1, if_neg h2]
theorem tell_about {s u : Bx.St} {k n : Int} {t : ByteArray} (h1 : ¬ k = 84) (h2 : ¬ k = 67) (h : Bx.aboutP s k n = (u, true)) : Bx.tell s ⟨k, t, n⟩ = u := by
  unfold Bx.tell; rw [do_about s k n t h1 h2, h]; rfl
theorem frames_one (c : Bx.Ch) : Bx.frames [c] = Bx.frame (Bx.body c) := by simp [Bx.frames]
theorem Ok.num1 {s : St} (h : Ok s) : ∀ x ∈ s.slots, 1 ≤ x.num := fun _ hx => (h.each hx).1
theorem Ok.att {s : St} (h : Ok s) : ∀ x ∈ s.slots, x.att ≤ opt s x.line 2 - 48 := fun _ hx => (h.each hx).2.2.2.2.2
theorem Ok.skip {s : St} (h : Ok s) (n : Int) (how : ByteArray) (hs : Bx.StOk (abs (ended s n how))) : Ok (ended s n how) :=
  ⟨hs, h.rise.filter _, fun x hx => h.ex x ((List.mem_filter.1 hx).1)⟩
theorem repl_mem {l : List Sl} {x y : Sl} (h : y ∈ repl l x) : y = x ∨ y ∈ l := by
  obtain ⟨z, hz, rfl⟩ := List.mem_map.1 h
  by_cases q : (z.num == x.num) = true
  · rw [if_pos q]; exact Or.inl rfl
  · rw [if_neg q]; exact Or.inr hz
theorem Ok.repl {s : St} (h : Ok s) (x : Sl) (hs : Bx.StOk (abs { s with slots := repl s.slots x })) (hx : -1 ≤ x.ans ∧ x.ans ≤ 4223371679 ∧ 0 ≤ x.step ∧ x.step ≤ ((stepsOf (tl s.tab (x.line - 1).toNat)).length : Int) ∧ x.heard.size ≤ 8 ∧ (x.step = 0 → x.heard = ByteArray.empty)) : Ok { s with slots := Px.repl s.slots x } := by
  refine ⟨hs, ?_, fun y hy => ?_⟩
  · unfold Px.repl
    refine List.Pairwise.map _ ?_ h.rise
    intro a b hab
    have ea : (if (a.num == x.num) = true then x else a).num = a.num := by
      split
      · rename_i q; exact (by simpa using q : a.num = x.num).symm
      · rfl
    have eb : (if (b.num == x.num) = true then x else b).num = b.num := by
      split
      · rename_i q; exact (by simpa using q : b.num = x.num).symm
      · rfl
    rw [ea, eb]; exact hab
  · rcases repl_mem hy with rfl | hy
    · exact hx
    · exact h.ex y hy

/-- Cancel. -/
def cancelB (b : Bo) (n : Int) : Bo × Int :=
  if ¬ (cancelP b.st n).2 = 0 then (b, (cancelP b.st n).2)
  else if b.room < (b.log.size : Int) + (Bx.frames [chK n]).size then (b, 13)
  else ({ b with st := (cancelP b.st n).1, log := b.log ++ Bx.frames [chK n] }, 0)
theorem cancel_st {s : St} {n : Int} (h : (cancelP s n).2 = 0) : (cancelP s n).1 = ended s n hK := by
  unfold cancelP at h ⊢
  cases q : find s.slots n with
  | none => rw [q] at h; cases h
  | some x =>
    have hn : x.num = n := by simpa using List.find?_some q
    simp only [hn]
theorem cancel_rel {b : Bo} {d : Bx.Bo} (h : Rel b d) (n : Int) : (cancelB b n).2 = (Go.Proofs.YtdajolpoiffimaaDoor.cancelP d n).2 ∧ Rel (cancelB b n).1 (Go.Proofs.YtdajolpoiffimaaDoor.cancelP d n).1 := by
  unfold cancelB Go.Proofs.YtdajolpoiffimaaDoor.cancelP
  rw [h.now, h.room, h.txt]
  rcases cancel_abs h.ok.dist n h.ok.num1 with ⟨h8, hf⟩ | ⟨h0, ha⟩
  · rw [if_pos (by omega), if_pos hf]; exact ⟨h8, h⟩
  · have hf : ¬ Bx.find (abs b.st) n < 0 := fun q => by
      unfold Bx.aboutP at ha; rw [if_pos q] at ha; exact absurd (congrArg Prod.snd ha) (by simp)
    rw [if_neg (by omega), if_neg hf]
    by_cases hr : b.room < (b.log.size : Int) + (Bx.frames [chK n]).size
    · rw [if_pos hr, if_pos hr]; exact ⟨rfl, h⟩
    · rw [if_neg hr, if_neg hr]
      have hst := cancel_st h0
      have hT : Bx.told d.now [chK n] = abs (ended b.st n hK) := by
        rw [told_one, h.now, ← hst]; exact tell_about (by omega) (by omega) ha
      have hok : Ok (ended b.st n hK) := by
        refine h.ok.skip _ _ ?_
        have := Bx.about_ok h.ok.st 75 n
        rw [ha, hst] at this; exact this
      refine ⟨rfl, h.lim, h.room, (by show Bx.told d.now [chK n] = abs (cancelP b.st n).1; rw [hT, hst]), by simp [addB, h.txt], ?_, hst ▸ hok, h.l1, h.l4, h.r0, h.r1, ?_⟩
      · have e : Bx.told (abs b.st) [chK n] = abs (ended b.st n hK) := by rw [← h.now]; exact hT
        rw [e, hst]
        exact h.tks.hush h.ok.dist hok.dist rfl (fun y hy _ => (List.mem_filter.1 hy).1)
      · simp [ByteArray.size_append] at hr ⊢; omega

/-- Load. -/
def LoadB (b : Bo) (tab : ByteArray) (b' : Bo) (a r : Int) : Prop :=
  (¬ r = 0 ∧ ChkR tab a r ∧ b' = b) ∨ (ChkR tab 0 0 ∧ 0 < b.st.slots.length ∧ b' = b ∧ a = 0 ∧ r = 5) ∨
  (ChkR tab 0 0 ∧ b.st.slots.length = 0 ∧ b.room < (b.log.size : Int) + (Bx.frames [chT tab]).size ∧ b' = b ∧ a = 0 ∧ r = 13) ∨
  (ChkR tab 0 0 ∧ b.st.slots.length = 0 ∧ ¬ b.room < (b.log.size : Int) + (Bx.frames [chT tab]).size ∧ b' = { b with st := { b.st with tab := tab }, log := b.log ++ Bx.frames [chT tab] } ∧ a = 0 ∧ r = 0)
theorem load_rel {b b' : Bo} {d d' : Bx.Bo} {tab : ByteArray} {a r a' r' : Int} (h : Rel b d) (hp : LoadB b tab b' a r) (hd : LoadR d tab d' a' r') : a = a' ∧ r = r' ∧ Rel b' d' := by
  have hl : d.now.slots.length = b.st.slots.length := by rw [h.now]; simp [abs]
  have hf : fits d [chT tab] ↔ ¬ b.room < (b.log.size : Int) + (Bx.frames [chT tab]).size := by unfold fits; rw [h.room, h.txt]
  rcases hp with ⟨p1, p2, rfl⟩ | ⟨p2, p3, rfl, rfl, rfl⟩ | ⟨p2, p3, p4, rfl, rfl, rfl⟩ | ⟨p2, p3, p4, rfl, rfl, rfl⟩
  · rcases hd with ⟨q1, q2, rfl⟩ | ⟨q2, _⟩ | ⟨q2, _⟩ | ⟨q2, _⟩
    · obtain ⟨rfl, rfl⟩ := p2.uniq q2; exact ⟨rfl, rfl, h⟩
    all_goals exact absurd (p2.uniq q2).2 p1
  · rcases hd with ⟨q1, q2, _⟩ | ⟨q2, q3, rfl, rfl, rfl⟩ | ⟨q2, q3, _⟩ | ⟨q2, q3, _⟩
    · exact absurd (q2.uniq p2).2 q1
    · exact ⟨rfl, rfl, h⟩
    · omega
    · omega
  · rcases hd with ⟨q1, q2, _⟩ | ⟨q2, q3, _⟩ | ⟨q2, q3, q4, rfl, rfl, rfl⟩ | ⟨q2, q3, q4, _⟩
    · exact absurd (q2.uniq p2).2 q1
    · omega
    · exact ⟨rfl, rfl, h⟩
    · exact absurd p4 (hf.1 q4)
  · rcases hd with ⟨q1, q2, _⟩ | ⟨q2, q3, _⟩ | ⟨q2, q3, q4, _⟩ | ⟨q2, q3, q4, rfl, rfl, rfl⟩
    · exact absurd (q2.uniq p2).2 q1
    · omega
    · exact absurd (hf.2 p4) q4
    · have hT : Bx.told d.now [chT tab] = abs { b.st with tab := tab } := by
        rw [told_one, h.now]
        have e : Bx.doP (abs b.st) (chT tab) = (abs { b.st with tab := tab }, true) := by
          unfold Bx.doP
          rw [if_pos (show (chT tab).kind = 84 from rfl), if_pos ⟨p2, by simpa [abs] using p3⟩]
          rfl
        unfold Bx.tell
        rw [e]; rfl
      have hnil : b.st.slots = [] := List.eq_nil_of_length_eq_zero p3
      have hst : Bx.StOk (abs { b.st with tab := tab }) := by
        rw [← hT]; exact Bx.told_ok (by rw [h.now]; exact h.ok.st) _
      have hok : Ok { b.st with tab := tab } := ⟨hst, by simp [hnil], by simp [hnil]⟩
      have ht : d.talks = [] := by
        cases e : d.talks with
        | nil => rfl
        | cons t r => obtain ⟨x, hx, _⟩ := h.tks.of t (by rw [e]; simp); rw [hnil] at hx; cases hx
      refine ⟨rfl, rfl, h.lim, h.room, hT, by simp [addB, h.txt], ?_, hok, h.l1, h.l4, h.r0, h.r1, ?_⟩
      · show Tks _ d.talks
        rw [ht]; exact ⟨List.Pairwise.nil, by simp, by simp [hnil]⟩
      · simp [ByteArray.size_append] at p4 ⊢; omega
end Px
end Go.Proofs.YtdajolpoiffimaaDoor

namespace Go.Proofs.YtdajolpoiffimaaDoor
namespace Px
open Bx (En push hA hD hK hS)

/-- A slot that was not answered fails. -/
def failStep (p : St × ByteArray) (n : Int) : St × ByteArray := if (failP p.1 n).2 = 0 then ((failP p.1 n).1, p.2 ++ Bx.frame (Bx.body (chF n))) else p
noncomputable def tickQ (b : Bo) (m : Int) : St × ByteArray := (late (clockP b.st m).1).foldl failStep ((clockP b.st m).1, Bx.frame (Bx.body (chCl m)))
noncomputable def tickB (b : Bo) (m : Int) : Bo × Int × Int :=
  if ¬ (clockP b.st m).2 = 0 then (b, 0, (clockP b.st m).2)
  else if b.room < (b.log.size : Int) + (tickQ b m).2.size then (b, 0, 13)
  else ({ b with st := (tickQ b m).1, log := b.log ++ (tickQ b m).2 }, (clockP b.st m).1.next - b.st.next, 0)
theorem fail_ok {s : St} (h : Ok s) (n : Int) (h0 : (failP s n).2 = 0) : Ok (failP s n).1 := by
  have hst : Bx.StOk (abs (failP s n).1) := by
    rcases fail_abs h.dist n h.num1 h.att with ⟨q, _⟩ | ⟨q, _⟩ | ⟨_, q⟩
    · omega
    · omega
    · have := Bx.about_ok h.st 70 n; rw [q] at this; exact this
  unfold failP at h0 hst ⊢
  cases q : find s.slots n with
  | none => rw [q] at h0; cases h0
  | some x =>
    rw [q] at h0 hst
    simp only at h0 hst ⊢
    by_cases h9 : x.step ≤ 0
    · rw [if_pos h9] at h0; cases h0
    rw [if_neg h9] at hst ⊢
    by_cases ha : opt s x.line 2 - 48 ≤ x.att
    · rw [if_pos ha] at hst ⊢; exact h.skip _ _ hst
    · rw [if_neg ha] at hst ⊢
      exact h.repl _ hst ⟨by show (-1 : Int) ≤ 0; omega, by show (0 : Int) ≤ _; omega, by show (0 : Int) ≤ 0; omega, by show (0 : Int) ≤ ((_ : Nat) : Int); omega, by show (0 : Nat) ≤ 8; omega, fun _ => rfl⟩
/-- Another slot is as it was; one that runs was there. -/
theorem fail_other {s : St} (n : Int) (h0 : (failP s n).2 = 0) : (failP s n).1.tab = s.tab ∧ (∀ y ∈ (failP s n).1.slots, 0 < y.step → y ∈ s.slots) ∧ ∀ y ∈ s.slots, ¬ y.num = n → y ∈ (failP s n).1.slots := by
  unfold failP at h0 ⊢
  cases q : find s.slots n with
  | none => rw [q] at h0; cases h0
  | some x =>
    rw [q] at h0
    have hn : x.num = n := by simpa using List.find?_some q
    simp only at h0 ⊢
    by_cases h9 : x.step ≤ 0
    · rw [if_pos h9] at h0; cases h0
    rw [if_neg h9]
    by_cases ha : opt s x.line 2 - 48 ≤ x.att
    · rw [if_pos ha]
      exact ⟨rfl, fun y hy _ => (List.mem_filter.1 hy).1, fun y hy hne => List.mem_filter.2 ⟨hy, by simpa using hne⟩⟩
    · rw [if_neg ha]
      refine ⟨rfl, fun y hy hs => ?_, fun y hy hne => ?_⟩
      · rcases repl_mem hy with rfl | hy
        · exact absurd hs (by show ¬ (0 : Int) < 0; omega)
        · exact hy
      · refine List.mem_map.2 ⟨y, hy, ?_⟩
        have : (y.num == (again s x).num) = false := by
          have : ¬ y.num = (again s x).num := by show ¬ y.num = x.num; rw [hn]; exact hne
          simpa using this
        rw [this]; rfl
theorem fails_rel (ns : List Int) : ∀ (s : St) (f : ByteArray), Ok s → (∀ n ∈ ns, ∃ x ∈ s.slots, x.num = n ∧ 0 < x.step) → ns.Pairwise (· ≠ ·) →
    (ns.map chF).foldl Bx.tell (abs s) = abs (ns.foldl failStep (s, f)).1 ∧ (ns.foldl failStep (s, f)).2 = (ns.map chF).foldl (fun s c => s ++ Bx.frame (Bx.body c)) f ∧ Ok (ns.foldl failStep (s, f)).1 ∧
    (ns.foldl failStep (s, f)).1.tab = s.tab ∧ ∀ y ∈ (ns.foldl failStep (s, f)).1.slots, 0 < y.step → y ∈ s.slots := by
  induction ns with
  | nil => intro s f h _ _; exact ⟨rfl, rfl, h, rfl, fun y hy _ => hy⟩
  | cons n r ih =>
    intro s f h hall hp
    obtain ⟨x, hx, hxn, hxs⟩ := hall n (by simp)
    have hF : find s.slots n = some x := by rw [← hxn]; exact find_mem h.dist hx
    have h0 : (failP s n).2 = 0 := by
      unfold failP; rw [hF]; simp only
      rw [if_neg (by omega)]; split <;> rfl
    obtain ⟨o1, o2, o3⟩ := fail_other n h0
    have hp' := List.pairwise_cons.1 hp
    have e : failStep (s, f) n = ((failP s n).1, f ++ Bx.frame (Bx.body (chF n))) := by unfold failStep; rw [if_pos h0]
    obtain ⟨i1, i2, i3, i4, i5⟩ := ih (failP s n).1 (f ++ Bx.frame (Bx.body (chF n))) (fail_ok h n h0) (fun k hk => by
      obtain ⟨y, hy, hyn, hys⟩ := hall k (by simp [hk])
      exact ⟨y, o3 y hy (by rw [hyn]; exact fun e => hp'.1 k hk e.symm), hyn, hys⟩) hp'.2
    rw [List.map_cons, List.foldl_cons, List.foldl_cons, List.foldl_cons, e]
    refine ⟨?_, i2, i3, by rw [i4, o1], fun y hy hs => o2 y (i5 y hy hs) hs⟩
    have ht : Bx.tell (abs s) (chF n) = abs (failP s n).1 := by
      rcases fail_abs h.dist n h.num1 h.att with ⟨q, _⟩ | ⟨q, _⟩ | ⟨_, q⟩
      · omega
      · omega
      · exact tell_about (by omega) (by omega) q
    rw [ht]; exact i1
theorem arrs_slots (l : List (Nat × Int)) (s : St) : ∃ z, (l.foldl arr s).slots = s.slots ++ z ∧ (∀ y ∈ z, y.step = 0 ∧ y.ans = 0 ∧ y.heard = ByteArray.empty ∧ s.next ≤ y.num ∧ y.num < s.next + l.length) ∧ z.Pairwise (fun a b => a.num < b.num) ∧ (l.foldl arr s).next = s.next + l.length ∧ (l.foldl arr s).tab = s.tab ∧ (l.foldl arr s).clock = s.clock := by
  induction l generalizing s with
  | nil => exact ⟨[], by simp, by simp, List.Pairwise.nil, by simp, rfl, rfl⟩
  | cons p r ih =>
    rw [List.foldl_cons]
    obtain ⟨z, h1, h2, h3, h4, h5, h6⟩ := ih (arr s p)
    have hn : (arr s p).next = s.next + 1 := by unfold arr; split <;> rfl
    have ht : (arr s p).tab = s.tab := by unfold arr; split <;> rfl
    have hc : (arr s p).clock = s.clock := by unfold arr; split <;> rfl
    by_cases q : 8 ≤ s.slots.length
    · have e : (arr s p).slots = s.slots := by unfold arr; rw [if_pos q]
      refine ⟨z, by rw [h1, e], fun y hy => ?_, h3, by rw [h4, hn]; simp; omega, by rw [h5, ht], by rw [h6, hc]⟩
      obtain ⟨a1, a2, a3, a4, a5⟩ := h2 y hy
      exact ⟨a1, a2, a3, by omega, by simp; omega⟩
    · have e : (arr s p).slots = s.slots ++ [slotOf p s.next] := by unfold arr; rw [if_neg q]
      refine ⟨slotOf p s.next :: z, by rw [h1, e]; simp, fun y hy => ?_, List.pairwise_cons.2 ⟨fun y hy => ?_, h3⟩, by rw [h4, hn]; simp; omega, by rw [h5, ht], by rw [h6, hc]⟩
      · rcases List.mem_cons.1 hy with rfl | hy
        · exact ⟨rfl, rfl, rfl, by show s.next ≤ s.next; omega, by show s.next < _; simp; omega⟩
        · obtain ⟨a1, a2, a3, a4, a5⟩ := h2 y hy
          exact ⟨a1, a2, a3, by omega, by simp; omega⟩
      · obtain ⟨_, _, _, a4, _⟩ := h2 y hy
        show s.next < y.num; omega
theorem clock_st {s : St} {m : Int} (h0 : (clockP s m).2 = 0) : 0 ≤ m ∧ m ≤ 4223371679 ∧ aheadP s m = true ∧ ¬ 10000 < s.next + ((comesP s m).length : Int) ∧ (clockP s m).1 = { (comesP s m).foldl arr s with clock := m } := by
  have e := clock_err s m
  rw [h0] at e
  by_cases h4 : m < 0 ∨ 4223371679 < m
  · rw [if_pos h4] at e; cases e
  rw [if_neg h4] at e
  by_cases h6 : aheadP s m = false
  · rw [if_pos h6] at e; cases e
  rw [if_neg h6] at e
  by_cases h7 : 10000 < s.next + ((comesP s m).length : Int)
  · rw [if_pos h7] at e; cases e
  refine ⟨by omega, by omega, by simpa using h6, h7, ?_⟩
  unfold clockP; rw [if_neg h4, if_neg h6, if_neg h7]
theorem clock_ok {s : St} (h : Ok s) {m : Int} (h0 : (clockP s m).2 = 0) : Ok (clockP s m).1 := by
  have hst : Bx.StOk (abs (clockP s m).1) := by
    have := Bx.clocked_ok h.st m; rw [clock_abs s m h0] at this; exact this
  obtain ⟨_, _, _, _, e⟩ := clock_st h0
  obtain ⟨z, h1, h2, h3, h4, h5, h6⟩ := arrs_slots (comesP s m) s
  rw [e] at hst ⊢
  refine ⟨hst, ?_, fun x hx => ?_⟩
  · show ((comesP s m).foldl arr s).slots.Pairwise _
    rw [h1, List.pairwise_append]
    refine ⟨h.rise, h3, fun a ha b hb => ?_⟩
    have := (h.each ha).2.1; have := (h2 b hb).2.2.2.1; omega
  · have hx' : x ∈ s.slots ++ z := by rw [← h1]; exact hx
    rcases List.mem_append.1 hx' with hx' | hx'
    · have := h.ex x hx'
      show _ ∧ _ ∧ _ ∧ x.step ≤ ((stepsOf (tl ((comesP s m).foldl arr s).tab (x.line - 1).toNat)).length : Int) ∧ _
      rw [h5]; exact this
    · obtain ⟨a1, a2, a3, _, _⟩ := h2 x hx'
      exact ⟨by omega, by omega, by omega, by rw [a1]; show (0 : Int) ≤ ((_ : Nat) : Int); omega, by rw [a3]; decide, fun _ => a3⟩
/-- The talk of a slot. -/
theorem Tks.talk {s : St} {l : List Bx.Tk} (h : Tks s l) (hd : Dist s.slots) {x : Sl} (hx : x ∈ s.slots) :
    (0 < x.step → ∃ k : Nat, ∃ hk : k < l.length, talkOf l x.num = k ∧ Goes s x l[k]) ∧ (x.step ≤ 0 → talkOf l x.num = -1) := by
  constructor
  · intro hs
    obtain ⟨t, ht, hn⟩ := h.all x hx hs
    obtain ⟨k, hk, rfl⟩ := List.mem_iff_getElem.1 ht
    refine ⟨k, hk, talkOf_some hk hn (fun j hj hjk e => ?_), ?_⟩
    · exact List.pairwise_iff_getElem.1 h.dist j k hj hk hjk (by rw [e, hn])
    · obtain ⟨y, hy, hg⟩ := h.of _ ht
      have : y = x := hd.mem hy hx (by rw [← hg.1, hn])
      subst this; exact hg
  · intro hs
    refine talkOf_none (fun j hj e => ?_)
    obtain ⟨y, hy, hg⟩ := h.of _ (List.getElem_mem hj)
    have : y = x := hd.mem hy hx (by rw [← hg.1, e])
    subst this
    have := hg.2.1; omega
def ltB (m : Int) (x : Sl) : Bool := decide (0 < x.step) && decide (x.ans ≤ m - 3)
theorem late_iff {b : Bo} {d : Bx.Bo} (h : Rel b d) (m : Int) {x : Sl} (hx : x ∈ b.st.slots) : Go.Proofs.YtdajolpoiffimaaDoor.late d m x.num = ltB m x := by
  unfold Go.Proofs.YtdajolpoiffimaaDoor.late ltB
  obtain ⟨h1, h2⟩ := h.tks.talk h.ok.dist hx
  by_cases hs : 0 < x.step
  · obtain ⟨k, hk, e, hg⟩ := h1 hs
    rw [e]
    obtain ⟨a, _, hr⟩ := hg.2.2
    have e2 : tkAt d ((k : Int)).toNat = d.talks[k] := by simp [tkAt, hk]
    rw [e2]
    have := hr.ans
    congr 1
    · simp [hs]
    · apply decide_eq_decide.2; omega
  · rw [h2 (by omega)]; simp [hs]
theorem tickK_list {b : Bo} {d : Bx.Bo} (h : Rel b d) (m : Int) (k : Nat) (hk : k ≤ b.st.slots.length) : tickK d m k = chCl m :: (((b.st.slots.take k).filter (ltB m)).map (·.num)).map chF := by
  induction k with
  | zero => rfl
  | succ k ih =>
    have hk' : k < b.st.slots.length := by omega
    have e : (Bx.slAt d.now k).num = b.st.slots[k].num := by rw [h.now, slAt_abs hk']; rfl
    rw [tickK, ih (by omega), e, late_iff h m (List.getElem_mem hk'), List.take_succ_eq_append_getElem hk', List.filter_append]
    by_cases q : ltB m b.st.slots[k] = true
    · rw [if_pos q]; simp [q]
    · rw [if_neg q]; simp [q]
theorem late_clock {s : St} {m : Int} (h0 : (clockP s m).2 = 0) : late (clockP s m).1 = (s.slots.filter (ltB m)).map (·.num) := by
  obtain ⟨_, _, _, _, e⟩ := clock_st h0
  obtain ⟨z, h1, h2, _⟩ := arrs_slots (comesP s m) s
  unfold late
  rw [e]
  show (((comesP s m).foldl arr s).slots.filter fun x => decide (0 < x.step) && decide (x.ans ≤ m - 3)).map (·.num) = _
  rw [h1, List.filter_append]
  have : z.filter (fun x => decide (0 < x.step) && decide (x.ans ≤ m - 3)) = [] := by
    rw [List.filter_eq_nil_iff]
    intro y hy
    have := (h2 y hy).1
    simp; omega
  rw [this, List.append_nil]; rfl
theorem frames_fold (l : List Bx.Ch) (c : Bx.Ch) : Bx.frames (c :: l) = l.foldl (fun s c => s ++ Bx.frame (Bx.body c)) (Bx.frame (Bx.body c)) := by simp [Bx.frames]
theorem Rise.nums {l : List Sl} (h : l.Pairwise fun a b => a.num < b.num) (p : Sl → Bool) : ((l.filter p).map (·.num)).Pairwise (· ≠ ·) :=
  List.Pairwise.map _ (fun _ _ hab => by omega) (h.filter p)
theorem tick_all {b : Bo} {d : Bx.Bo} (h : Rel b d) (m : Int) (h0 : (clockP b.st m).2 = 0) :
    Bx.told d.now (tickL d m) = abs (tickQ b m).1 ∧ Bx.frames (tickL d m) = (tickQ b m).2 ∧ Ok (tickQ b m).1 ∧ (tickQ b m).1.tab = b.st.tab ∧ ∀ y ∈ (tickQ b m).1.slots, 0 < y.step → y ∈ b.st.slots := by
  have hl : d.now.slots.length = b.st.slots.length := by rw [h.now]; simp [abs]
  have eL : tickL d m = chCl m :: (late (clockP b.st m).1).map chF := by
    unfold tickL; rw [hl, tickK_list h m _ (Nat.le_refl _), List.take_length, late_clock h0]
  have hnums : ∀ n ∈ late (clockP b.st m).1, ∃ x ∈ b.st.slots, x.num = n ∧ 0 < x.step := by
    rw [late_clock h0]
    intro n hn
    obtain ⟨x, hx, rfl⟩ := List.mem_map.1 hn
    obtain ⟨hx1, hx2⟩ := List.mem_filter.1 hx
    refine ⟨x, hx1, rfl, ?_⟩
    unfold ltB at hx2; simp at hx2; exact hx2.1
  obtain ⟨_, _, _, _, eC⟩ := clock_st h0
  obtain ⟨z, h1, h2, h3, h4, h5, h6⟩ := arrs_slots (comesP b.st m) b.st
  have hsl : (clockP b.st m).1.slots = b.st.slots ++ z := by rw [eC]; exact h1
  have htab : (clockP b.st m).1.tab = b.st.tab := by rw [eC]; exact h5
  obtain ⟨f1, f2, f3, f4, f5⟩ := fails_rel (late (clockP b.st m).1) (clockP b.st m).1 (Bx.frame (Bx.body (chCl m))) (clock_ok h.ok h0) (fun n hn => by
    obtain ⟨x, hx, a, c⟩ := hnums n hn
    exact ⟨x, by rw [hsl]; simp [hx], a, c⟩) (by rw [late_clock h0]; exact Rise.nums h.ok.rise _)
  refine ⟨?_, ?_, f3, by rw [← htab]; exact f4, fun y hy hs => ?_⟩
  · rw [eL]
    unfold Bx.told
    rw [List.foldl_cons]
    have ht : Bx.tell d.now (chCl m) = abs (clockP b.st m).1 := by
      rw [h.now]
      have e : Bx.doP (abs b.st) (chCl m) = (abs (clockP b.st m).1, true) := by
        unfold Bx.doP
        rw [if_neg (show ¬ (chCl m).kind = 84 by show ¬ (67 : Int) = 84; omega), if_pos (show (chCl m).kind = 67 from rfl)]
        exact clock_abs b.st m h0
      unfold Bx.tell; rw [e]; rfl
    rw [ht]; exact f1
  · rw [eL, frames_fold]; exact f2.symm
  · have := f5 y hy hs
    rw [hsl] at this
    rcases List.mem_append.1 this with q | q
    · exact q
    · have := (h2 y q).1; omega
theorem tick_rel {b : Bo} {d : Bx.Bo} (h : Rel b d) (m : Int) : (tickB b m).2 = (tickP d m).2 ∧ Rel (tickB b m).1 (tickP d m).1 := by
  have e := clock_err b.st m
  unfold tickB tickP
  by_cases h4 : m < 0 ∨ 4223371679 < m
  · rw [if_pos h4] at e
    rw [if_pos (by omega), if_pos (by rw [minB_no h4]; simp), e]; exact ⟨rfl, h⟩
  rw [if_neg h4] at e
  rw [if_neg (show ¬ ¬ minB m = true by rw [minB_yes (by omega) (by omega)]; simp)]
  have hah : Bx.ahead d.now m = aheadP b.st m := by
    rw [h.now]; unfold Bx.ahead aheadP
    apply decide_eq_decide.2
    show (0 ≤ m ∧ m ≤ 4223371679 ∧ b.st.clock < m ∧ (b.st.clock = -1 ∨ m - b.st.clock ≤ 1500)) ↔ _
    omega
  rw [hah]
  by_cases h6 : aheadP b.st m = false
  · rw [if_pos h6] at e
    rw [if_pos (by omega), if_pos (by rw [h6]; simp), e]; exact ⟨rfl, h⟩
  rw [if_neg h6] at e
  rw [if_neg (show ¬ ¬ aheadP b.st m = true by simpa using h6)]
  have hcm : Bx.comesS d.now m = comesP b.st m := by rw [h.now]; rfl
  have hnx : d.now.next = b.st.next := by rw [h.now]; rfl
  rw [hcm, hnx]
  by_cases h7 : 10000 < b.st.next + ((comesP b.st m).length : Int)
  · rw [if_pos h7] at e
    rw [if_pos (by omega), if_pos h7, e]; exact ⟨rfl, h⟩
  rw [if_neg h7] at e
  rw [if_neg (by omega), if_neg h7]
  obtain ⟨t1, t2, t3, t4, t5⟩ := tick_all h m e
  rw [t2, h.room, h.txt]
  by_cases hr : b.room < (b.log.size : Int) + (tickQ b m).2.size
  · rw [if_pos hr, if_pos hr]; exact ⟨rfl, h⟩
  · rw [if_neg hr, if_neg hr]
    obtain ⟨_, _, _, _, eC⟩ := clock_st e
    obtain ⟨z, h1, h2, h3, h4', h5, h6'⟩ := arrs_slots (comesP b.st m) b.st
    have hn : (clockP b.st m).1.next - b.st.next = ((comesP b.st m).length : Int) := by
      rw [eC]; show ((comesP b.st m).foldl arr b.st).next - _ = _; rw [h4']; omega
    refine ⟨by rw [hn], h.lim, h.room, t1, by simp [addB, h.txt, t2], ?_, t3, h.l1, h.l4, h.r0, h.r1, ?_⟩
    · show Tks (tickQ b m).1 (hushL (Bx.told d.now (tickL d m)) d.talks)
      rw [t1]
      exact h.tks.hush h.ok.dist t3.dist t4 t5
    · simp [ByteArray.size_append] at hr ⊢; omega
end Px
end Go.Proofs.YtdajolpoiffimaaDoor

namespace Go.Proofs.YtdajolpoiffimaaDoor
namespace Px
open Bx (En push hA hD hK hS)

theorem repl_repl (l : List Sl) (a b : Sl) (h : a.num = b.num) : repl (repl l a) b = repl l b := by
  unfold repl
  rw [List.map_map]
  apply List.map_congr_left
  intro y _
  simp only [Function.comp]
  by_cases q : (y.num == a.num) = true
  · have q' : (y.num == b.num) = true := by rw [← h]; exact q
    rw [if_pos q, if_pos q', if_pos (by simpa using h)]
  · rw [if_neg q]
theorem skip_repl (l : List Sl) (x : Sl) (n : Int) (h : x.num = n) : skip (repl l x) n = skip l n := by
  unfold skip repl
  induction l with
  | nil => rfl
  | cons y r ih =>
    rw [List.map_cons]
    by_cases q : y.num = x.num
    · rw [if_pos (by simpa using q), List.filter_cons_of_neg (by simp [h]), List.filter_cons_of_neg (by simp [q, h]), ih]
    · rw [if_neg (by simpa using q), List.filter_cons_of_pos (by simpa [← h] using q), List.filter_cons_of_pos (by simpa [← h] using q), ih]
theorem find_repl {l : List Sl} {x y : Sl} (hy : y ∈ l) (h : y.num = x.num) : find (repl l x) x.num = some x := by
  unfold find repl
  induction l with
  | nil => cases hy
  | cons z r ih =>
    rw [List.map_cons]
    by_cases q : z.num = x.num
    · rw [if_pos (by simpa using q), List.find?_cons_of_pos (by simp)]
    · rw [if_neg (by simpa using q), List.find?_cons_of_neg (by simpa using q)]
      rcases List.mem_cons.1 hy with rfl | hy
      · exact absurd h q
      · exact ih hy
theorem repl_keep {l : List Sl} {x y : Sl} (hy : y ∈ l) (h : ¬ y.num = x.num) : y ∈ repl l x :=
  List.mem_map.2 ⟨y, hy, by rw [if_neg (by simpa using h)]⟩
theorem repl_new {l : List Sl} {x y : Sl} (hy : y ∈ l) (h : y.num = x.num) : x ∈ repl l x :=
  List.mem_map.2 ⟨y, hy, by rw [if_pos (by simpa using h)]⟩
theorem repl_mem' {l : List Sl} {x y : Sl} (h : y ∈ repl l x) : y = x ∨ (y ∈ l ∧ ¬ y.num = x.num) := by
  obtain ⟨z, hz, rfl⟩ := List.mem_map.1 h
  by_cases q : (z.num == x.num) = true
  · rw [if_pos q]; exact Or.inl rfl
  · rw [if_neg q]; exact Or.inr ⟨hz, by simpa using q⟩
theorem repl_abs (s : St) {x y : Sl} (hd : Dist s.slots) (hy : y ∈ s.slots) (h : absS x = absS y) : abs { s with slots := repl s.slots x } = abs s := by
  unfold abs repl
  simp only [List.map_map]
  congr 1
  apply List.map_congr_left
  intro z hz
  simp only [Function.comp]
  have hn : x.num = y.num := congrArg Bx.Sl.num h
  by_cases q : (z.num == x.num) = true
  · rw [if_pos q, h]
    have : z = y := hd.mem hz hy (by rw [← hn]; simpa using q)
    rw [this]
  · rw [if_neg q]
theorem filter_set {l : List Sl} {p : Sl → Bool} {i : Nat} {x : Sl} (hi : i < l.length) (h1 : p l[i] = false) (h2 : p x = true) : ((l.set i x).filter p).length = (l.filter p).length + 1 := by
  induction l generalizing i with
  | nil => simp at hi
  | cons a r ih =>
    cases i with
    | zero =>
      simp only [List.getElem_cons_zero] at h1
      rw [List.set_cons_zero, List.filter_cons_of_pos h2, List.filter_cons_of_neg (by simp [h1])]; simp
    | succ i =>
      have hi' : i < r.length := by simpa using hi
      have := ih hi' (by simpa using h1)
      rw [List.set_cons_succ]
      by_cases q : p a = true
      · rw [List.filter_cons_of_pos q, List.filter_cons_of_pos q]; simp [this]
      · rw [List.filter_cons_of_neg q, List.filter_cons_of_neg q, this]
theorem goF_ans (L : List ByteArray) (c : Int) (n : Nat) (x : Sl) : (goF L c n x).1.ans = x.ans ∨ (goF L c n x).1.ans = c := by
  induction n generalizing x with
  | zero => exact Or.inl rfl
  | succ n ih =>
    rw [goF]
    split
    · exact Or.inl rfl
    · split
      · exact ih { x with step := x.step + 1 }
      · split
        · exact Or.inl rfl
        · rcases ih { x with step := x.step + 1, heard := behS x.heard (wordAt L (x.step - 1).toNat), ans := c } with q | q
          · exact Or.inr q
          · exact Or.inr q

/-- A slot hears a text and talks. -/
def heardS (y : Sl) (x : ByteArray) : Sl := { y with heard := y.heard ++ x }
def talkS (s : St) (y : Sl) (x : ByteArray) : Sl × ByteArray := goF (stepsL s y) s.clock ((stepsL s y).length + 1) (heardS y x)
def talkT (s : St) (y : Sl) (x : ByteArray) : St := { s with slots := repl s.slots (talkS s y x).1 }
def commitB (b : Bo) (s : St) (fr said : ByteArray) : Bo × ByteArray × Int :=
  if b.room < (b.log.size : Int) + fr.size then (b, ByteArray.empty, 13) else ({ b with st := s, log := b.log ++ fr }, said, 0)
def talkB (b : Bo) (s : St) (n : Int) (x fr : ByteArray) : Bo × ByteArray × Int :=
  match find s.slots n with
  | none => (b, ByteArray.empty, 8)
  | some y => if y.step ≤ 0 then (b, ByteArray.empty, 9)
    else if ((stepsL s y).length : Int) < (talkS s y x).1.step then
      (if ¬ (doneP (talkT s y x) n).2 = 0 then (b, ByteArray.empty, (doneP (talkT s y x) n).2) else commitB b (doneP (talkT s y x) n).1 (fr ++ Bx.frame (Bx.body (chD n))) (talkS s y x).2)
    else commitB b (talkT s y x) fr (talkS s y x).2
def feedB (b : Bo) (n : Int) (x : ByteArray) : Bo × ByteArray × Int := if 40 < x.size then (b, ByteArray.empty, 1) else talkB b b.st n x ByteArray.empty
def startB (b : Bo) (n : Int) : Bo × ByteArray × Int :=
  if ¬ (startP b.st n).2 = 0 then (b, ByteArray.empty, (startP b.st n).2)
  else if b.limit < ((runs (startP b.st n).1 : Nat) : Int) then (b, ByteArray.empty, 12)
  else talkB b (startP b.st n).1 n ByteArray.empty (Bx.frame (Bx.body (chS n)))
theorem done_talk {s : St} {y X : Sl} {n : Int} (hy : y ∈ s.slots) (hn : y.num = n) (hX : X.num = n) (hs : 0 < X.step) : doneP { s with slots := repl s.slots X } n = (ended s n hD, 0) := by
  unfold doneP
  have : find (repl s.slots X) n = some X := by rw [← hX]; exact find_repl hy (by rw [hn, hX])
  simp only [this]
  rw [if_neg (by omega)]
  unfold ended
  simp only [skip_repl s.slots X n hX]
theorem steps_size {s : St} (h : Ok s) {y : Sl} (hy : y ∈ s.slots) : 1 ≤ (stepsL s y).length ∧ (stepsL s y).length ≤ 5 ∧ ∀ z ∈ stepsL s y, 2 ≤ z.size ∧ z.size ≤ 9 := by
  have h1 := h.each hy
  have hl := h.st.tab.lines.2.2 (y.line - 1).toNat (by show _ < tn s.tab; omega)
  exact ⟨(stepsOf_len hl).1, (stepsOf_len hl).2, step_sz hl⟩
theorem word_size {L : List ByteArray} {a : Nat} (h : a < L.length) (hL : ∀ z ∈ L, 2 ≤ z.size ∧ z.size ≤ 9) : 1 ≤ (wordAt L a).size ∧ (wordAt L a).size ≤ 8 := by
  have := hL _ (List.getElem_mem h)
  rw [← word_eq h]
  simp [ByteArray.size_extract]; omega
theorem app_list (a b : ByteArray) : (a ++ b).data.toList = a.data.toList ++ b.data.toList := by simp [ByteArray.data_append]
theorem size_list (a : ByteArray) : a.data.toList.length = a.size := by simp
end Px
end Go.Proofs.YtdajolpoiffimaaDoor

namespace Go.Proofs.YtdajolpoiffimaaDoor
namespace Px
open Bx (En push hA hD hK hS)

/-- The talks behind one that goes on. -/
theorem Tks.set {s : St} {l : List Bx.Tk} (h : Tks s l) (_hd : Dist s.slots) {y X : Sl} {T : Bx.Tk} {k : Nat} (hk : k < l.length) (hy : y ∈ s.slots) (hg : Goes s y l[k]) (hL : Like y X) (hT : T.num = l[k].num) (hs : 0 < X.step) {a : Nat} (ha : a < (stepsL s y).length) (hR : Rest (stepsL s y) X T a) :
    Tks { s with slots := repl s.slots X } (l.set k T) := by
  have hXn : X.num = y.num := hL.1
  have eL : ∀ z, stepsL { s with slots := repl s.slots X } z = stepsL s z := fun _ => rfl
  have eX : stepsL s X = stepsL s y := by unfold stepsL; rw [hL.2.1]
  refine ⟨?_, ?_, ?_⟩
  · rw [List.pairwise_iff_getElem]
    intro i j hi hj hij
    have hi' : i < l.length := by simpa using hi
    have hj' : j < l.length := by simpa using hj
    have base := List.pairwise_iff_getElem.1 h.dist i j hi' hj' hij
    have num : ∀ (m : Nat) (hm : m < l.length), ((l.set k T)[m]'(by simpa using hm)).num = l[m].num := by
      intro m hm
      by_cases q : k = m
      · subst q; simp [hT]
      · rw [List.getElem_set_ne q]
    rw [num i hi', num j hj']; exact base
  · intro t ht
    obtain ⟨j, hj, rfl⟩ := List.mem_iff_getElem.1 ht
    have hj' : j < l.length := by simpa using hj
    by_cases q : k = j
    · subst q
      refine ⟨X, repl_new hy hXn.symm, ?_⟩
      rw [List.getElem_set_self]
      exact ⟨by rw [hT, hg.1, hXn], hs, a, by rw [eL, eX]; exact ha, by rw [eL, eX]; exact hR⟩
    · rw [List.getElem_set_ne q]
      obtain ⟨x, hx, hgx⟩ := h.of _ (List.getElem_mem hj')
      have hne : ¬ x.num = X.num := by
        rw [hXn, ← hgx.1, ← hg.1]
        intro e
        rcases Nat.lt_or_gt_of_ne q with c | c
        · exact List.pairwise_iff_getElem.1 h.dist k j hk hj' c e.symm
        · exact List.pairwise_iff_getElem.1 h.dist j k hj' hk c e
      exact ⟨x, repl_keep hx hne, hgx⟩
  · intro x hx hxs
    rcases repl_mem' hx with rfl | ⟨hx, hne⟩
    · exact ⟨T, List.mem_iff_getElem.2 ⟨k, by simpa using hk, by simp⟩, by rw [hT, hg.1, hXn]⟩
    · obtain ⟨t, ht, hn⟩ := h.all x hx hxs
      obtain ⟨j, hj, rfl⟩ := List.mem_iff_getElem.1 ht
      have q : ¬ k = j := by
        intro q; subst q
        exact hne (by rw [← hn, hg.1, hXn])
      exact ⟨l[j], List.mem_iff_getElem.2 ⟨j, by simpa using hj, by rw [List.getElem_set_ne q]⟩, hn⟩
theorem rest_heard {L : List ByteArray} {x : Sl} {t : Bx.Tk} {a : Nat} (h : Rest L x t a) (ha : a < L.length) (hL : ∀ z ∈ L, 2 ≤ z.size ∧ z.size ≤ 9) : x.heard.size ≤ 7 := by
  obtain ⟨_, _, h3⟩ := h.hear ha
  have := word_size ha hL
  rw [← size_list, h3, lastN, List.length_drop]
  omega
theorem feed_rel {b : Bo} {d : Bx.Bo} (h : Rel b d) (n : Int) (x : ByteArray) : (feedB b n x).2 = (feedP d n x).2 ∧ Rel (feedB b n x).1 (feedP d n x).1 := by
  unfold feedB feedP
  by_cases h40 : 40 < x.size
  · rw [if_pos h40, if_pos h40]; exact ⟨rfl, h⟩
  rw [if_neg h40, if_neg h40]
  unfold talkB
  cases hF : find b.st.slots n with
  | none =>
    have := find_none hF
    rw [← h.now] at this
    rw [if_pos (by omega)]; exact ⟨rfl, h⟩
  | some y =>
    obtain ⟨i, hi, hyi, hyn, hFd⟩ := find_some h.ok.dist hF
    have hy : y ∈ b.st.slots := by rw [← hyi]; exact List.getElem_mem hi
    rw [← h.now] at hFd
    rw [if_neg (by omega)]
    obtain ⟨t1, t2⟩ := h.tks.talk h.ok.dist hy
    rw [hyn] at t1 t2
    simp only
    by_cases hs : y.step ≤ 0
    · rw [if_pos hs, if_pos (by rw [t2 hs]; omega)]; exact ⟨rfl, h⟩
    rw [if_neg hs]
    obtain ⟨k, hk, hTk, hg⟩ := t1 (by omega)
    obtain ⟨a, ha, hR⟩ := hg.2.2
    rw [hTk, if_neg (show ¬ (k : Int) < 0 by omega)]
    have eL : startL d n = stepsL b.st y := by
      unfold startL stepsS stepsL
      rw [hFd, h.now]; simp only [Int.toNat_natCast]; rw [slAt_abs hi, hyi]; rfl
    have eH : feedH d n x = hearF (stepsL b.st y) b.st.clock (stepsL b.st y).length (more d.talks[k] x) := by
      unfold feedH
      rw [eL, hTk]
      have : tkAt d ((k : Int)).toNat = d.talks[k] := by simp [tkAt, hk]
      rw [this, h.now]; rfl
    obtain ⟨_, s5, sz⟩ := steps_size h.ok hy
    obtain ⟨q1, q2, q3⟩ := hR.hear ha
    have hw := word_size ha sz
    obtain ⟨r1, ⟨a', r2⟩, r3, r4⟩ := hear_same (stepsL b.st y) b.st.clock _ a (stepsL b.st y).length ((stepsL b.st y).length + 1) (heardS y x) (more d.talks[k] x) rfl (by omega) (by omega) hR.at' hR.le hR.step hR.ans
      (fun _ => ⟨q1, by
        show behL _ (y.heard ++ x).data.toList = behL _ (d.talks[k].heard ++ x).data.toList
        rw [app_list, app_list, q3, ← size_list]
        exact beh_last _ _ _ (by rw [size_list]; omega) q2, fun _ => by
        show lastN _ (y.heard ++ x).data.toList = lastN _ (d.talks[k].heard ++ x).data.toList
        rw [app_list, app_list, q3, lastN_app]⟩)
    have eT : talkS b.st y x = goF (stepsL b.st y) b.st.clock ((stepsL b.st y).length + 1) (heardS y x) := rfl
    rw [← eT] at r1 r2 r3
    rw [← eH] at r1 r2 r4
    have hXn : (talkS b.st y x).1.num = n := by rw [← hyn]; exact r3.1
    have hXs : 0 < (talkS b.st y x).1.step := by rw [r2.step]; omega
    rw [eL]
    by_cases ho : ((stepsL b.st y).length : Int) < (talkS b.st y x).1.step
    · have ho' : ((stepsL b.st y).length : Int) ≤ (feedH d n x).1.at' := by rw [r2.at']; rw [r2.step] at ho; omega
      rw [if_pos ho, if_pos ho']
      have hdn : doneP (talkT b.st y x) n = (ended b.st n hD, 0) := done_talk hy hyn hXn hXs
      rw [hdn]
      simp only [not_true, if_false]
      unfold commitB
      have efr : ByteArray.empty ++ Bx.frame (Bx.body (chD n)) = Bx.frames [chD n] := by rw [frames_one, ba_nil_app]
      rw [efr, h.room, h.txt]
      by_cases hr : b.room < (b.log.size : Int) + (Bx.frames [chD n]).size
      · rw [if_pos hr, if_pos hr]; exact ⟨rfl, h⟩
      · rw [if_neg hr, if_neg hr]
        have hab : Bx.aboutP (abs b.st) 68 n = (abs (ended b.st n hD), true) := by
          have e : doneP b.st n = (ended b.st n hD, 0) := by unfold doneP; rw [hF]; simp only; rw [if_neg hs]
          rcases done_abs h.ok.dist n h.ok.num1 with ⟨q, _⟩ | ⟨q, _⟩ | ⟨_, q⟩
          · rw [e] at q; cases q
          · rw [e] at q; cases q
          · rw [e] at q; exact q
        have hT : Bx.told d.now [chD n] = abs (ended b.st n hD) := by
          rw [told_one, h.now]; exact tell_about (by omega) (by omega) hab
        have hok : Ok (ended b.st n hD) := by
          refine h.ok.skip _ _ ?_
          have := Bx.about_ok h.ok.st 68 n
          rw [hab] at this; exact this
        refine ⟨by rw [r1], h.lim, h.room, hT, by simp [addB, h.txt], ?_, hok, h.l1, h.l4, h.r0, h.r1, ?_⟩
        · show Tks (ended b.st n hD) (hushL (Bx.told d.now [chD n]) d.talks)
          rw [hT]
          exact h.tks.hush h.ok.dist hok.dist rfl (fun z hz _ => (List.mem_filter.1 hz).1)
        · simp [ByteArray.size_append] at hr ⊢; omega
    · have ho' : ¬ ((stepsL b.st y).length : Int) ≤ (feedH d n x).1.at' := by rw [r2.at']; rw [r2.step] at ho; omega
      rw [if_neg ho, if_neg ho']
      have ha' : a' < (stepsL b.st y).length := by have := r2.step; omega
      unfold commitB
      have hr : ¬ b.room < (b.log.size : Int) + ByteArray.empty.size := by have := h.log; show ¬ _ < _ + ((0 : Nat) : Int); omega
      rw [if_neg hr]
      have habs : abs (talkT b.st y x) = abs b.st := by
        refine repl_abs b.st h.ok.dist hy ?_
        obtain ⟨l1, l2, l3, l4, l5⟩ := r3
        unfold absS
        have e1 : (talkS b.st y x).1.num = y.num := l1
        have e2 : (talkS b.st y x).1.line = y.line := l2
        have e3 : (talkS b.st y x).1.minute = y.minute := l3
        have e4 : (talkS b.st y x).1.att = y.att := l4
        have e5 : (talkS b.st y x).1.frm = y.frm := l5
        rw [e1, e2, e3, e4, e5, decide_eq_true hXs, decide_eq_true (by omega : 0 < y.step)]
      have hex := h.ok.ex y hy
      have hans : (talkS b.st y x).1.ans = y.ans ∨ (talkS b.st y x).1.ans = b.st.clock := goF_ans _ _ _ _
      have hc1 : -1 ≤ b.st.clock := h.ok.st.c1
      have hc2 : b.st.clock ≤ 4223371679 := h.ok.st.c2
      have hok : Ok (talkT b.st y x) := by
        refine h.ok.repl _ (by show Bx.StOk (abs (talkT b.st y x)); rw [habs]; exact h.ok.st) ⟨?_, ?_, by omega, by have := r2.step; have el : (talkS b.st y x).1.line = y.line := r3.2.1; rw [el]; show _ ≤ ((stepsL b.st y).length : Int); omega, ?_, fun q => by omega⟩
        · rcases hans with q | q <;> omega
        · rcases hans with q | q <;> omega
        · have := rest_heard r2 ha' sz; omega
      have hLk : Like y (talkS b.st y x).1 := Like.trans (⟨rfl, rfl, rfl, rfl, rfl⟩ : Like y (heardS y x)) r3
      refine ⟨by rw [r1], h.lim, h.room, by show d.now = abs (talkT b.st y x); rw [habs]; exact h.now, by simp [h.txt], ?_, hok, h.l1, h.l4, h.r0, h.r1, by simpa using h.log⟩
      show Tks (talkT b.st y x) (d.talks.set ((k : Int)).toNat (feedH d n x).1)
      rw [Int.toNat_natCast]
      exact h.tks.set h.ok.dist hk hy hg hLk r4 hXs ha' r2
end Px
end Go.Proofs.YtdajolpoiffimaaDoor

namespace Go.Proofs.YtdajolpoiffimaaDoor
namespace Px
open Bx (En push hA hD hK hS)

theorem behL_nil {w : List UInt8} (h : 0 < w.length) : behL w [] = none := behL_short (by simpa using h)
/-- What a slot that was just started comes to. -/
theorem go_start (L : List ByteArray) (c : Int) (x : Sl) (hx : x.step = 1) (hh : x.heard = ByteArray.empty) (sz : ∀ z ∈ L, 2 ≤ z.size ∧ z.size ≤ 9) :
    (goF L c (L.length + 1) x) = ({ x with step := (((saysL L).2 : Nat) : Int) + 1 }, (saysL L).1) := by
  obtain ⟨n', h1, h2⟩ := goF_says L c L.length 0 (L.length + 1) x rfl (by omega) (by rw [hx]; rfl) (by omega)
  rw [List.drop_zero, Nat.zero_add] at h2
  rw [List.drop_zero] at h1
  have hk := saysL_le L
  obtain ⟨n'', rfl⟩ : ∃ k, n' = k + 1 := ⟨n' - 1, by omega⟩
  rw [h2]
  have key : goF L c (n'' + 1) { x with step := (((saysL L).2 : Nat) : Int) + 1 } = ({ x with step := (((saysL L).2 : Nat) : Int) + 1 }, ByteArray.empty) := by
    by_cases q : (saysL L).2 < L.length
    · rw [goF]
      have e1 : ((((saysL L).2 : Nat) : Int) + 1 - 1).toNat = (saysL L).2 := by omega
      have e2 : L.getD (saysL L).2 ByteArray.empty = L[(saysL L).2] := by simp [q]
      have e3 := saysL_stop L q
      simp only [e1, e2, e3]
      rw [if_neg (by omega), if_neg (by simp)]
      have hb : behB x.heard (wordAt L (saysL L).2) = false := by
        unfold behB
        rw [hh]
        have := word_size q sz
        have e : ByteArray.empty.data.toList = [] := rfl
        rw [e, behL_nil (by rw [size_list]; omega)]; rfl
      rw [if_pos hb]
      have : lastB x.heard ((wordAt L (saysL L).2).size - 1) = x.heard := by
        rw [hh]; unfold lastB
        rw [if_neg (by show ¬ _ < 0; omega)]
      rw [this]
    · rw [goF, if_pos (by show (L.length : Int) < _; simp only; omega)]
  rw [key, ba_app_nil]
theorem runs_repl {s : St} (hd : Dist s.slots) {i : Nat} (hi : i < s.slots.length) (hw : s.slots[i].step ≤ 0) {X : Sl} (hX : X.num = s.slots[i].num) (hs : 0 < X.step) : runs { s with slots := repl s.slots X } = runs s + 1 := by
  unfold runs
  simp only
  rw [repl_set hd hi X hX]
  exact filter_set hi (by simp; omega) (by simpa using hs)
set_option maxHeartbeats 1000000 in
theorem start_rel {b : Bo} {d : Bx.Bo} (h : Rel b d) (n : Int) : (startB b n).2 = (Go.Proofs.YtdajolpoiffimaaDoor.startP d n).2 ∧ Rel (startB b n).1 (Go.Proofs.YtdajolpoiffimaaDoor.startP d n).1 := by
  unfold startB Go.Proofs.YtdajolpoiffimaaDoor.startP
  have hnow := h.now
  rcases start_abs h.ok.dist n with ⟨e8, hf⟩ | ⟨i, hi, hF, hn, hc⟩
  · have er : refusedP d (Bx.find d.now n) = 8 := by unfold refusedP; rw [hnow, if_pos hf]
    rw [if_pos (by omega), er, if_pos (by omega), e8]; exact ⟨rfl, h⟩
  have hFd : Bx.find d.now n = i := by rw [hnow]; exact hF
  have hsl : Bx.slAt d.now ((i : Int)).toNat = absS b.st.slots[i] := by rw [hnow, Int.toNat_natCast, slAt_abs hi]
  have hcl : d.now.clock = b.st.clock := by rw [hnow]; rfl
  have efm : (absS b.st.slots[i]).frm = b.st.slots[i].frm := rfl
  rcases hc with ⟨e, q⟩ | ⟨e, q1, q2⟩ | ⟨e, q1, q2, q3⟩ | ⟨e, q1, q2, q3, q4, q5⟩
  · have er : refusedP d (Bx.find d.now n) = 9 := by
      unfold refusedP; rw [hFd, if_neg (by omega), hsl, if_pos (by simpa [absS] using q)]
    rw [if_pos (by omega), er, if_pos (by omega), e]; exact ⟨rfl, h⟩
  · have er : refusedP d (Bx.find d.now n) = 10 := by
      unfold refusedP; rw [hFd, if_neg (by omega), hsl, if_neg (by simp [absS]; omega), hcl, efm, if_pos q2]
    rw [if_pos (by omega), er, if_pos (by omega), e]; exact ⟨rfl, h⟩
  · have er : refusedP d (Bx.find d.now n) = 11 := by
      unfold refusedP; rw [hFd, if_neg (by omega), hsl, if_neg (by simp [absS]; omega), hcl, efm, if_neg q2, Int.toNat_natCast, hnow, lock_abs hi q1, if_pos q3]
    rw [if_pos (by omega), er, if_pos (by omega), e]; exact ⟨rfl, h⟩
  have hr0 : refusedP d (Bx.find d.now n) = if b.limit ≤ (runs b.st : Int) then 12 else 0 := by
    unfold refusedP; rw [hFd, if_neg (by omega), hsl, if_neg (by simp [absS]; omega), hcl, efm, if_neg q2, Int.toNat_natCast, hnow, lock_abs hi q1, if_neg (by simp [q3]), runs_abs, h.lim]
  have hrun : runs (startP b.st n).1 = runs b.st + 1 := by rw [q4]; exact runs_repl h.ok.dist hi q1 rfl (by show (0 : Int) < 1; omega)
  rw [if_neg (by omega), hrun]
  by_cases h12 : b.limit ≤ (runs b.st : Int)
  · rw [if_pos h12] at hr0
    rw [if_pos (by omega), hr0, if_pos (by omega)]; exact ⟨rfl, h⟩
  rw [if_neg h12] at hr0
  rw [if_neg (by omega), if_neg (by rw [hr0]; simp)]
  have hy : b.st.slots[i] ∈ b.st.slots := List.getElem_mem hi
  generalize hyg : b.st.slots[i] = y at *
  have hh0 := h.ok.ex y hy
  have hyh : y.heard = ByteArray.empty := hh0.2.2.2.2.2 (by omega)
  obtain ⟨s1, s5, sz⟩ := steps_size h.ok hy
  have eL : startL d n = stepsL b.st y := by
    unfold startL stepsS stepsL
    rw [hFd, hsl, h.now]; rfl
  have hFs : find (startP b.st n).1.slots n = some (beg b.st y) := by
    rw [q4]
    have hbn : (beg b.st y).num = n := hn
    rw [← hbn]; exact find_repl hy rfl
  have eLs : stepsL (startP b.st n).1 (beg b.st y) = stepsL b.st y := by rw [q4]; rfl
  have ecl : (startP b.st n).1.clock = b.st.clock := by rw [q4]
  have hT : talkS (startP b.st n).1 (beg b.st y) ByteArray.empty = ({ beg b.st y with step := (((saysL (stepsL b.st y)).2 : Nat) : Int) + 1 }, (saysL (stepsL b.st y)).1) := by
    unfold talkS
    rw [eLs, ecl]
    have : heardS (beg b.st y) ByteArray.empty = beg b.st y := by
      unfold heardS; rw [ba_app_nil]
    rw [this]
    exact go_start _ _ _ rfl hyh sz
  unfold talkB
  rw [hFs]
  simp only
  rw [if_neg (show ¬ (beg b.st y).step ≤ 0 by show ¬ (1 : Int) ≤ 0; omega), eLs, hT, eL]
  have hk := saysL_le (stepsL b.st y)
  have etT : talkT (startP b.st n).1 (beg b.st y) ByteArray.empty = { b.st with slots := repl b.st.slots { beg b.st y with step := (((saysL (stepsL b.st y)).2 : Nat) : Int) + 1 } } := by
    unfold talkT
    rw [hT, q4]
    have rr := repl_repl b.st.slots (beg b.st y) { beg b.st y with step := (((saysL (stepsL b.st y)).2 : Nat) : Int) + 1 } rfl
    simp only
    rw [rr]
  have hS : Bx.tell d.now (chS n) = abs (startP b.st n).1 := by rw [hnow]; exact tell_about (by omega) (by omega) q5
  have hok1 : Ok (startP b.st n).1 := by
    have hst : Bx.StOk (abs (startP b.st n).1) := by
      have := Bx.about_ok h.ok.st 83 n
      rw [q5] at this; exact this
    rw [q4] at hst ⊢
    exact h.ok.repl _ hst ⟨h.ok.st.c1, h.ok.st.c2, by show (0 : Int) ≤ 1; omega, by show (1 : Int) ≤ ((stepsL b.st y).length : Int); omega, by show y.heard.size ≤ 8; omega, fun q => by simp [beg] at q⟩
  have hyt : ∀ t ∈ d.talks, ∃ x ∈ b.st.slots, ¬ x.num = n ∧ Goes b.st x t := by
    intro t ht
    obtain ⟨x, hx, hg⟩ := h.tks.of t ht
    refine ⟨x, hx, ?_, hg⟩
    intro e'
    have : x = y := h.ok.dist.mem hx hy (by rw [e', hn])
    subst this
    have := hg.2.1; omega
  by_cases ho : (saysL (stepsL b.st y)).2 = (stepsL b.st y).length
  · rw [if_pos (show ((stepsL b.st y).length : Int) < ((saysL (stepsL b.st y)).2 : Int) + 1 by omega)]
    have hdn : doneP (talkT (startP b.st n).1 (beg b.st y) ByteArray.empty) n = (ended b.st n hD, 0) := by
      rw [etT]; exact done_talk hy hn hn (by simp only; omega)
    rw [hdn]
    simp only [not_true, if_false]
    have eC : startC (stepsL b.st y) n = [chS n] ++ [chD n] := by unfold startC; rw [if_pos ho]
    have efr : Bx.frame (Bx.body (chS n)) ++ Bx.frame (Bx.body (chD n)) = Bx.frames (startC (stepsL b.st y) n) := by rw [eC]; simp [Bx.frames]
    unfold commitB
    rw [efr, h.room, h.txt]
    by_cases hr : b.room < (b.log.size : Int) + (Bx.frames (startC (stepsL b.st y) n)).size
    · rw [if_pos hr, if_pos hr]; exact ⟨rfl, h⟩
    · rw [if_neg hr, if_neg hr]
      have hab : Bx.aboutP (abs (startP b.st n).1) 68 n = (abs (ended b.st n hD), true) := by
        have e' : doneP (startP b.st n).1 n = (ended b.st n hD, 0) := by
          rw [q4]; exact done_talk hy hn hn (by show (0 : Int) < 1; omega)
        rcases done_abs hok1.dist n hok1.num1 with ⟨q, _⟩ | ⟨q, _⟩ | ⟨_, q⟩
        · rw [e'] at q; cases q
        · rw [e'] at q; cases q
        · rw [e'] at q; exact q
      have hTo : Bx.told d.now (startC (stepsL b.st y) n) = abs (ended b.st n hD) := by
        rw [eC]
        show Bx.tell (Bx.tell d.now (chS n)) (chD n) = _
        rw [hS]; exact tell_about (by omega) (by omega) hab
      have hok : Ok (ended b.st n hD) := by
        refine h.ok.skip _ _ ?_
        have := Bx.about_ok hok1.st 68 n
        rw [hab] at this; exact this
      refine ⟨rfl, h.lim, h.room, hTo, by simp [addB, h.txt], ?_, hok, h.l1, h.l4, h.r0, h.r1, ?_⟩
      · show Tks (ended b.st n hD) (if (saysL (stepsL b.st y)).2 < (stepsL b.st y).length then _ else d.talks)
        rw [if_neg (by omega)]
        refine ⟨h.tks.dist, fun t ht => ?_, fun x hx hxs => h.tks.all x (List.mem_filter.1 hx).1 hxs⟩
        obtain ⟨x, hx, hne, hg⟩ := hyt t ht
        exact ⟨x, List.mem_filter.2 ⟨hx, by simpa using hne⟩, hg⟩
      · simp [ByteArray.size_append] at hr ⊢; omega
  · have hlt : (saysL (stepsL b.st y)).2 < (stepsL b.st y).length := by omega
    rw [if_neg (show ¬ ((stepsL b.st y).length : Int) < ((saysL (stepsL b.st y)).2 : Int) + 1 by omega), etT]
    have eC : startC (stepsL b.st y) n = [chS n] := by unfold startC; rw [if_neg ho]
    have efr : Bx.frame (Bx.body (chS n)) = Bx.frames (startC (stepsL b.st y) n) := by rw [eC, frames_one]
    unfold commitB
    rw [efr, h.room, h.txt]
    by_cases hr : b.room < (b.log.size : Int) + (Bx.frames (startC (stepsL b.st y) n)).size
    · rw [if_pos hr, if_pos hr]; exact ⟨rfl, h⟩
    · rw [if_neg hr, if_neg hr]
      generalize hX : ({ beg b.st y with step := (((saysL (stepsL b.st y)).2 : Nat) : Int) + 1 } : Sl) = X
      have hXn : X.num = n := by rw [← hX]; exact hn
      have hXs : X.step = (((saysL (stepsL b.st y)).2 : Nat) : Int) + 1 := by rw [← hX]
      have habs : abs { b.st with slots := repl b.st.slots X } = abs (startP b.st n).1 := by
        rw [q4]
        have hm : beg b.st y ∈ (repl b.st.slots (beg b.st y)) := repl_new hy rfl
        have := repl_abs { b.st with slots := repl b.st.slots (beg b.st y) } (x := X) (y := beg b.st y) (by have := hok1.dist; rw [q4] at this; exact this) hm (by
          rw [← hX]; unfold absS beg; simp only
          rw [decide_eq_true (by omega), decide_eq_true (by omega)])
        simp only at this
        rw [repl_repl b.st.slots (beg b.st y) X (by rw [← hX])] at this
        exact this
      have hTo : Bx.told d.now (startC (stepsL b.st y) n) = abs { b.st with slots := repl b.st.slots X } := by
        rw [eC, told_one, hS, habs]
      have hok : Ok { b.st with slots := repl b.st.slots X } := by
        refine h.ok.repl _ (by rw [habs]; exact hok1.st) ⟨?_, ?_, by omega, (by have el : X.line = y.line := (by rw [← hX]; rfl); rw [el]; show _ ≤ ((stepsL b.st y).length : Int); omega), ?_, fun q => by omega⟩
        · rw [← hX]; exact h.ok.st.c1
        · rw [← hX]; exact h.ok.st.c2
        · rw [← hX]; show y.heard.size ≤ 8; omega
      refine ⟨rfl, h.lim, h.room, hTo, by simp [addB, h.txt], ?_, hok, h.l1, h.l4, h.r0, h.r1, ?_⟩
      · show Tks { b.st with slots := repl b.st.slots X } (if (saysL (stepsL b.st y)).2 < (stepsL b.st y).length then d.talks ++ [⟨n, ((saysL (stepsL b.st y)).2 : Nat), d.now.clock, { data := #[] }⟩] else d.talks)
        rw [if_pos hlt, hcl]
        have eX : stepsL { b.st with slots := repl b.st.slots X } X = stepsL b.st y := by rw [← hX]; rfl
        have hgX : Goes { b.st with slots := repl b.st.slots X } X ⟨n, ((saysL (stepsL b.st y)).2 : Nat), b.st.clock, { data := #[] }⟩ := by
          refine ⟨hXn.symm, by omega, (saysL (stepsL b.st y)).2, by rw [eX]; exact hlt, ?_⟩
          rw [eX]
          have hwz := word_size hlt sz
          refine ⟨rfl, by omega, hXs, by rw [← hX]; rfl, fun _ => ⟨saysL_stop _ hlt, behL_nil (by rw [size_list]; omega), ?_⟩⟩
          rw [← hX]
          show y.heard.data.toList = _
          rw [hyh]
          show ([] : List UInt8) = lastN _ []
          simp [lastN]
        refine ⟨?_, ?_, ?_⟩
        · rw [List.pairwise_append]
          refine ⟨h.tks.dist, by simp, fun t ht u hu => ?_⟩
          obtain ⟨x, hx, hne, hg⟩ := hyt t ht
          simp at hu; subst hu
          rw [hg.1]; exact hne
        · intro t ht
          rcases List.mem_append.1 ht with ht | ht
          · obtain ⟨x, hx, hne, hg⟩ := hyt t ht
            exact ⟨x, repl_keep hx (by rw [hXn]; exact hne), hg⟩
          · simp at ht; subst ht
            exact ⟨X, repl_new hy (by rw [hXn]; exact hn), hgX⟩
        · intro x hx hxs
          rcases repl_mem' hx with rfl | ⟨hx, hne⟩
          · exact ⟨_, List.mem_append.2 (Or.inr (List.mem_singleton.2 rfl)), hXn.symm⟩
          · obtain ⟨t, ht, e'⟩ := h.tks.all x hx hxs
            exact ⟨t, List.mem_append.2 (Or.inl ht), e'⟩
      · simp [ByteArray.size_append] at hr ⊢; omega
end Px
end Go.Proofs.YtdajolpoiffimaaDoor

namespace Go.Proofs.YtdajolpoiffimaaDoor
namespace Px

theorem inj_len {α : Type} : ∀ (l m : List α), l.Pairwise (· ≠ ·) → (∀ x ∈ l, x ∈ m) → l.length ≤ m.length := by
  intro l
  induction l with
  | nil => intro m _ _; simp
  | cons a r ih =>
    intro m hp hs
    obtain ⟨m1, m2, rfl⟩ := List.append_of_mem (hs a (by simp))
    have hp' := List.pairwise_cons.1 hp
    have := ih (m1 ++ m2) hp'.2 (fun x hx => by
      have h1 := hs x (by simp [hx])
      have h2 : x ≠ a := fun e => hp'.1 x hx e.symm
      simp only [List.mem_append, List.mem_cons] at h1 ⊢
      rcases h1 with h | h | h
      · exact Or.inl h
      · exact absurd h h2
      · exact Or.inr h)
    simp only [List.length_append, List.length_cons] at this ⊢
    omega
theorem Rel.len {b : Bo} {d : Bx.Bo} (h : Rel b d) : d.talks.length ≤ 8 := by
  have h1 := inj_len (d.talks.map (·.num)) (b.st.slots.map (·.num)) (List.pairwise_map.2 h.tks.dist) (fun n hn => by
    obtain ⟨t, ht, rfl⟩ := List.mem_map.1 hn
    obtain ⟨x, hx, hg⟩ := h.tks.of t ht
    exact List.mem_map.2 ⟨x, hx, hg.1.symm⟩)
  have := h.ok.len
  simp only [List.length_map] at h1
  omega
theorem Rel.boOk {b : Bo} {d : Bx.Bo} (h : Rel b d) : BoOk d := by
  refine ⟨?_, ?_, ?_, ?_, ?_⟩
  · rw [h.now]; exact h.ok.st
  · rw [h.txt]; have := h.log; have := h.r1; omega
  · have := h.len; omega
  · intro t ht
    obtain ⟨x, hx, _, _, a, _, hr⟩ := h.tks.of t ht
    have := h.ok.ex x hx
    rw [← hr.ans]; exact ⟨this.1, this.2.1⟩
  · intro t ht
    obtain ⟨x, hx, _, _, a, ha, hr⟩ := h.tks.of t ht
    have := (steps_size h.ok hx).2.1
    rw [hr.at']; omega
theorem Rel.ends {b : Bo} {d : Bx.Bo} (h : Rel b d) : d.now.ends = b.st.ends := by rw [h.now]; rfl
theorem Rel.slen {b : Bo} {d : Bx.Bo} (h : Rel b d) : d.now.slots.length = b.st.slots.length := by rw [h.now]; simp [abs]
theorem Rel.at_le {b : Bo} {d : Bx.Bo} (h : Rel b d) (n : Int) (ht : ¬ talkOf d.talks n < 0) : (tkAt d (talkOf d.talks n).toNat).at' ≤ (startL d n).length := by
  have hex : ∃ k : Nat, ∃ hk : k < d.talks.length, talkOf d.talks n = k ∧ d.talks[k].num = n := by
    unfold talkOf at ht ⊢
    cases q : d.talks.findIdx? (fun t => t.num == n) with
    | none => rw [q] at ht; simp at ht
    | some i =>
      obtain ⟨hi, he, _⟩ := List.findIdx?_eq_some_iff_getElem.1 q
      exact ⟨i, hi, rfl, by simpa using he⟩
  obtain ⟨k, hk, e, hn⟩ := hex
  rw [e, Int.toNat_natCast, ← tkAt_eq d k hk]
  obtain ⟨x, hx, hg, _, a, ha, hr⟩ := h.tks.of _ (List.getElem_mem hk)
  have hxn : x.num = n := by rw [← hg, hn]
  have hF : find b.st.slots n = some x := by rw [← hxn]; exact find_mem h.ok.dist hx
  obtain ⟨i, hi, rfl, hxn', hFi⟩ := find_some h.ok.dist hF
  have eL : startL d n = stepsL b.st b.st.slots[i] := by
    unfold startL stepsS stepsL
    rw [h.now, hFi, Int.toNat_natCast, slAt_abs hi]; rfl
  rw [eL, hr.at']; have := hr.le; omega
theorem Rel.step {b : Bo} {d : Bx.Bo} (h : Rel b d) {x : Sl} (hx : x ∈ b.st.slots) : (if 0 ≤ talkOf d.talks x.num then (tkAt d (talkOf d.talks x.num).toNat).at' + 1 else 0) = x.step := by
  obtain ⟨h1, h2⟩ := h.tks.talk h.ok.dist hx
  by_cases q : 0 < x.step
  · obtain ⟨k, hk, e, hg⟩ := h1 q
    obtain ⟨_, _, a, _, hr⟩ := hg
    rw [e, if_pos (by omega), Int.toNat_natCast, ← tkAt_eq d k hk, hr.at', hr.step]
  · rw [h2 (by omega), if_neg (by omega)]
    have := (h.ok.ex x hx).2.2.1
    omega
theorem Rel.sl {b : Bo} {d : Bx.Bo} (h : Rel b d) {k : Nat} (hk : k < b.st.slots.length) : Bx.slAt d.now k = absS b.st.slots[k] := by rw [h.now, slAt_abs hk]
/-- No talk has heard more than this. -/
def HMax (d : Bx.Bo) (N : Nat) : Prop := ∀ t ∈ d.talks, t.heard.size ≤ N
theorem HMax.mono {d : Bx.Bo} {N M : Nat} (h : HMax d N) (hl : N ≤ M) : HMax d M := fun t ht => Nat.le_trans (h t ht) hl
theorem hush_mem {s : Bx.St} {l : List Bx.Tk} {t : Bx.Tk} (h : t ∈ hushL s l) : t ∈ l := (List.mem_filter.1 h).1
theorem HMax.load {d d' : Bx.Bo} {N : Nat} {tab : ByteArray} {a r : Int} (h : HMax d N) (hl : LoadR d tab d' a r) : HMax d' N := by
  have : d'.talks = d.talks := by
    rcases hl with ⟨_, _, rfl⟩ | ⟨_, _, rfl, _⟩ | ⟨_, _, _, rfl, _⟩ | ⟨_, _, _, rfl, _⟩ <;> rfl
  intro t ht; rw [this] at ht; exact h t ht
theorem HMax.tick {d : Bx.Bo} {N : Nat} (h : HMax d N) (m : Int) : HMax (tickP d m).1 N := by
  unfold tickP
  repeat' split
  all_goals first | exact h | exact fun t ht => h t (hush_mem ht)
theorem HMax.cancel {d : Bx.Bo} {N : Nat} (h : HMax d N) (n : Int) : HMax (Go.Proofs.YtdajolpoiffimaaDoor.cancelP d n).1 N := by
  unfold Go.Proofs.YtdajolpoiffimaaDoor.cancelP
  repeat' split
  all_goals first | exact h | exact fun t ht => h t (hush_mem ht)
theorem HMax.start {d : Bx.Bo} {N : Nat} (h : HMax d N) (n : Int) : HMax (Go.Proofs.YtdajolpoiffimaaDoor.startP d n).1 N := by
  unfold Go.Proofs.YtdajolpoiffimaaDoor.startP
  repeat' split
  all_goals first
    | exact h
    | (intro t ht
       rcases List.mem_append.1 ht with q | q
       · exact h t q
       · have : t = _ := List.mem_singleton.1 q
         subst this; show (0 : Nat) ≤ N; omega)
theorem hearF_heard (L : List ByteArray) (c : Int) (n : Nat) : ∀ t : Bx.Tk, (hearF L c n t).1.heard.size ≤ t.heard.size := by
  induction n with
  | zero => intro t; exact Nat.le_refl _
  | succ n ih =>
    intro t
    rw [hearF]
    split
    · exact Nat.le_refl _
    · split
      · exact Nat.le_refl _
      · exact Nat.le_trans (ih _) (behS_size _ _)
theorem HMax.feed {d : Bx.Bo} {N : Nat} (h : HMax d N) (n : Int) (x : ByteArray) : HMax (feedP d n x).1 (N + 40) := by
  have h' : HMax d (N + 40) := h.mono (by omega)
  unfold feedP
  by_cases h40 : 40 < x.size
  · rw [if_pos h40]; exact h'
  rw [if_neg h40]
  repeat' split
  all_goals first
    | exact h'
    | exact fun t ht => h' t (hush_mem ht)
    | (intro t ht
       rcases List.mem_or_eq_of_mem_set ht with q | q
       · exact h' t q
       · subst q
         have h1 := hearF_heard (startL d n) d.now.clock (startL d n).length (more (tkAt d (talkOf d.talks n).toNat) x)
         have h2 : (tkAt d (talkOf d.talks n).toNat).heard.size ≤ N := by
           unfold tkAt
           by_cases q : (talkOf d.talks n).toNat < d.talks.length
           · rw [List.getD_eq_getElem?_getD, List.getElem?_eq_getElem q]; exact h _ (List.getElem_mem q)
           · rw [List.getD_eq_getElem?_getD, List.getElem?_eq_none (by omega)]; exact Nat.zero_le _
         have h3 : (more (tkAt d (talkOf d.talks n).toNat) x).heard.size = (tkAt d (talkOf d.talks n).toNat).heard.size + x.size := by unfold more; exact ByteArray.size_append ..
         show (feedH d n x).1.heard.size ≤ N + 40
         unfold feedH
         omega)
end Px
end Go.Proofs.YtdajolpoiffimaaDoor

namespace Go.Proofs.YtdajolpoiffimaaDoor
namespace Hs
/-- The crontab of started. -/
def tab : ByteArray := ⟨#[42, 32, 42, 32, 42, 32, 42, 32, 42, 32, 120, 97, 51, 32, 62, 113, 49, 32, 60, 121, 101, 115, 32, 60, 110, 111, 32, 62, 113, 50, 32, 60, 101, 110, 100, 10]⟩
def line : ByteArray := ⟨#[42, 32, 42, 32, 42, 32, 42, 32, 42, 32, 120, 97, 51, 32, 62, 113, 49, 32, 60, 121, 101, 115, 32, 60, 110, 111, 32, 62, 113, 50, 32, 60, 101, 110, 100]⟩
def star : ByteArray := ⟨#[42]⟩
def parts : List ByteArray := [star, star, star, star, star, ⟨#[120, 97, 51]⟩, ⟨#[62, 113, 49]⟩, ⟨#[60, 121, 101, 115]⟩, ⟨#[60, 110, 111]⟩, ⟨#[62, 113, 50]⟩, ⟨#[60, 101, 110, 100]⟩]
theorem tab_pcs : Txt.pcs 10 tab = [line, ByteArray.empty] := by kernel_rfl
theorem line_pcs : Txt.pcs 32 line = parts := by kernel_rfl
theorem star_c : Txt.cut1 47 star = star := by kernel_rfl
theorem star_t : Txt.cut3 47 star = false := by kernel_rfl
theorem star_p : Txt.pcs 44 star = [star] := by kernel_rfl
theorem star_s : Txt.star star = true := by unfold Txt.star; rw [ByteArray.toList_eq]; rfl
theorem star_fld (l g : Int) (h : l ≤ g) : Txt.fldB l g star = true := by
  unfold Txt.fldB; rw [star_p]
  simp [Txt.spK, Txt.spS, Txt.spA, Txt.spB, star_c, star_s, star_t, h]
theorem star_hld (l g v : Int) (h1 : l ≤ v) (h2 : v ≤ g) : Txt.hldB l g v star = true := by
  unfold Txt.hldB; rw [star_p]
  simp [Txt.inB, Txt.spS, Txt.spA, Txt.spB, star_c, star_s, star_t, h1, h2]
theorem steps : stepsOf line = [⟨#[62, 113, 49]⟩, ⟨#[60, 121, 101, 115]⟩, ⟨#[60, 110, 111]⟩, ⟨#[62, 113, 50]⟩, ⟨#[60, 101, 110, 100]⟩] := by unfold stepsOf; rw [line_pcs]; rfl
theorem tab_tn : tn tab = 1 := by unfold tn; rw [tab_pcs]; rfl
theorem tab_tl : tl tab 0 = line := by unfold tl; rw [tab_pcs]; rfl
theorem tab_t1 : tl tab 1 = ByteArray.empty := by unfold tl; rw [tab_pcs]; rfl
theorem stepB_of (s : ByteArray) (h : decide (2 ≤ s.size ∧ s.size ≤ 9 ∧ (s.data.toList.headD 0 = 62 ∨ s.data.toList.headD 0 = 60) ∧ (s.data.toList.drop 1).all (fun b => Txt.wb b.toNat) = true) = true) : Txt.stepB s = true := by
  obtain ⟨h1, h2, h3, h4⟩ := of_decide_eq_true h
  have hz : 0 < s.size := by omega
  refine Txt.stepB_yes ⟨h1, h2, hz, ?_, fun j hj h => ?_⟩
  · have e : s.data.toList.headD 0 = s[0] := by
      have : 0 < s.data.toList.length := by simpa using hz
      rw [List.headD_eq_head?_getD, List.head?_eq_getElem?, List.getElem?_eq_getElem this]; rfl
    rw [e] at h3
    rcases h3 with h3 | h3
    · left; rw [h3]; rfl
    · right; rw [h3]; rfl
  · have hl : j < s.data.toList.length := by simpa using hj
    have hm : s[j] ∈ s.data.toList.drop 1 := by
      rw [List.mem_iff_getElem]
      exact ⟨j - 1, by simp; omega, by rw [List.getElem_drop]; simp only [show 1 + (j - 1) = j by omega]; rfl⟩
    exact List.all_eq_true.1 h4 _ hm
theorem line_ok : LineP line := by
  refine ⟨by rw [line_pcs]; decide, by rw [line_pcs]; decide, fun i h h5 => ?_, fun h => ?_, fun i h h6 => ?_⟩
  · have e : (Txt.pcs 32 line)[i] = star := by
      have : i = 0 ∨ i = 1 ∨ i = 2 ∨ i = 3 ∨ i = 4 := by omega
      simp only [line_pcs]
      rcases this with rfl | rfl | rfl | rfl | rfl <;> rfl
    rw [e]
    exact star_fld _ _ (by have := lohi i; omega)
  · have e : (Txt.pcs 32 line)[5] = ⟨#[120, 97, 51]⟩ := by simp only [line_pcs]; rfl
    rw [e]
    refine Txt.optB_yes ⟨rfl, ?_⟩
    decide
  · have hl : i < 11 := by rw [line_pcs] at h; exact h
    have : i = 6 ∨ i = 7 ∨ i = 8 ∨ i = 9 ∨ i = 10 := by omega
    simp only [line_pcs]
    rcases this with rfl | rfl | rfl | rfl | rfl
    · exact stepB_of ⟨#[62, 113, 49]⟩ (by decide)
    · exact stepB_of ⟨#[60, 121, 101, 115]⟩ (by decide)
    · exact stepB_of ⟨#[60, 110, 111]⟩ (by decide)
    · exact stepB_of ⟨#[62, 113, 50]⟩ (by decide)
    · exact stepB_of ⟨#[60, 101, 110, 100]⟩ (by decide)
theorem chk : ChkR tab 0 0 := by
  refine ChkR.ok (by decide) ?_ (fun j hj => ?_) ?_
  · rw [tab_tn, tab_t1]; decide
  · rw [tab_tn] at hj
    obtain rfl : j = 0 := by omega
    rw [tab_tl]; exact lineB_yes line_ok
  · rw [tab_tn, tab_t1]; rfl
end Hs
end Go.Proofs.YtdajolpoiffimaaDoor

namespace Go.Proofs.YtdajolpoiffimaaDoor
namespace Px
theorem Rel.new {l r : Int} (h : mayB l r = true) : Rel ⟨l, r, first, ByteArray.empty⟩ ⟨l, r, Bx.first, ByteArray.empty, []⟩ := by
  obtain ⟨h1, h2, h3, h4⟩ := of_decide_eq_true h
  refine ⟨rfl, rfl, rfl, rfl, ⟨List.Pairwise.nil, fun t ht => by simp at ht, fun x hx => by simp [first] at hx⟩, ⟨Bx.first_ok, List.Pairwise.nil, fun x hx => by simp [first] at hx⟩, h1, h2, h3, h4, ?_⟩
  show ((0 : Nat) : Int) ≤ r; omega
theorem fsz (c : Bx.Ch) : (Bx.frame (Bx.body c)).size ≤ c.tab.size + 12 := by rw [Bx.frame_size]; have := Bx.body_size c; omega
/-- Load of a crontab, where there is no slot and there is room. -/
theorem load_yes {b b' : Bo} {tab : ByteArray} {a r : Int} (h : LoadB b tab b' a r) (hc : ChkR tab 0 0) (hs : b.st.slots = []) (hr : (b.log.size : Int) + tab.size + 12 ≤ b.room) :
    a = 0 ∧ r = 0 ∧ b' = { b with st := { b.st with tab := tab }, log := b.log ++ Bx.frames [chT tab] } := by
  have hf : (Bx.frames [chT tab]).size ≤ tab.size + 12 := by rw [frames_one]; exact fsz _
  rcases h with ⟨h1, h2, _⟩ | ⟨_, h2, _⟩ | ⟨_, _, h3, _⟩ | ⟨_, _, _, h4, h5, h6⟩
  · exact absurd (ChkR.uniq h2 hc).2 h1
  · rw [hs] at h2; simp at h2
  · omega
  · exact ⟨h5, h6, h4⟩
/-- What Tick does, where nothing is late. -/
theorem tick_yes {b : Bo} {m : Int} {s : St} (h0 : clockP b.st m = (s, 0)) (hl : late s = []) (hr : (b.log.size : Int) + 12 ≤ b.room) :
    tickB b m = ({ b with st := s, log := b.log ++ Bx.frame (Bx.body (chCl m)) }, s.next - b.st.next, 0) := by
  have hf : (Bx.frame (Bx.body (chCl m))).size ≤ 0 + 12 := fsz _
  have hq : tickQ b m = (s, Bx.frame (Bx.body (chCl m))) := by unfold tickQ; rw [h0, hl]; rfl
  unfold tickB
  rw [h0, hq, if_neg (by simp), if_neg (by simp only; omega)]
/-- What Tick does, where one slot is late. -/
theorem tick_one {b : Bo} {m n : Int} {s t : St} (h0 : clockP b.st m = (s, 0)) (hl : late s = [n]) (hf : failP s n = (t, 0)) (hr : (b.log.size : Int) + 24 ≤ b.room) :
    tickB b m = ({ b with st := t, log := b.log ++ (Bx.frame (Bx.body (chCl m)) ++ Bx.frame (Bx.body (chF n))) }, s.next - b.st.next, 0) := by
  have hf1 : (Bx.frame (Bx.body (chCl m))).size ≤ 0 + 12 := fsz _
  have hf2 : (Bx.frame (Bx.body (chF n))).size ≤ 0 + 12 := fsz _
  have hq : tickQ b m = (t, Bx.frame (Bx.body (chCl m)) ++ Bx.frame (Bx.body (chF n))) := by
    unfold tickQ; rw [h0, hl, List.foldl_cons, List.foldl_nil]; unfold failStep; rw [hf]; rfl
  unfold tickB
  rw [h0, hq, if_neg (by simp), if_neg (by simp only [ByteArray.size_append]; omega)]
/-- The clock, where nothing comes; where one does. -/
theorem clock_none {s : St} {m : Int} (h1 : 0 ≤ m) (h2 : m ≤ 4223371679) (ha : aheadP s m = true) (hn : s.next ≤ 10000) (hc : comesP s m = []) : clockP s m = ({ s with clock := m }, 0) := by
  have e := (clock_err' s m).2.2 (by omega) ha
  rw [e, hc, if_neg (by simp; omega)]; rfl
theorem clock_one {s : St} {m : Int} {p : Nat × Int} (h1 : 0 ≤ m) (h2 : m ≤ 4223371679) (ha : aheadP s m = true) (hn : s.next + 1 ≤ 10000) (hl : s.slots.length < 8) (hc : comesP s m = [p]) :
    clockP s m = ({ s with slots := s.slots ++ [slotOf p s.next], next := s.next + 1, clock := m }, 0) := by
  have e := (clock_err' s m).2.2 (by omega) ha
  rw [e, hc, if_neg (by simp; omega)]
  simp only [List.foldl_cons, List.foldl_nil, arr]
  rw [if_neg (by omega)]
/-- One line, which is due at no minute, or at the last one alone. -/
theorem comes_none {ls : List Bx.Ln} {a m : Int} (h : ∀ l ∈ ls, ∀ t, a ≤ t → t ≤ m → l.due t = false) : Bx.comes ls a m = [] := by
  have hR : Bx.ComesR ls a m [] := ⟨List.Pairwise.nil, fun i u => ⟨fun q => by simp at q, fun ⟨hi, q1, q2, q3⟩ => by
    have := h _ (List.getElem_mem hi) u q1 q2
    rw [q3.1] at this; cases this⟩⟩
  exact (Bx.comes_ok ls a m).uniq hR
theorem comes_at {l : Bx.Ln} {m : Int} (h : l.due m = true) : Bx.comes [l] m m = [(0, m)] := by
  have hR : Bx.ComesR [l] m m [(0, m)] := by
    refine ⟨by simp, fun i u => ⟨fun q => ?_, fun ⟨hi, q1, q2, q3⟩ => ?_⟩⟩
    · obtain ⟨rfl, rfl⟩ : i = 0 ∧ u = m := by simpa using q
      exact ⟨by simp, Int.le_refl _, Int.le_refl _, h, fun _ => rfl, fun _ v h1 h2 => by omega⟩
    · have : i = 0 := by simp at hi; omega
      have : u = m := by omega
      subst this; simp [*]
  exact (Bx.comes_ok [l] m m).uniq hR
end Px
end Go.Proofs.YtdajolpoiffimaaDoor
