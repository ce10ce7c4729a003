/-
  Doc, PCome, PRel, Hear, LogM2, LogM3, LogM4, LogM5, PCalls, PCalls2, PTick.
-/
import Derived.Test.YtdajolpoiffimabDoorG1

namespace Go.Proofs.YtdajolpoiffimabDoor

namespace Bx
structure Tk where
  num : Int
  at' : Int
  since : Int
  heard : ByteArray
/-- A box of the document's. -/
structure Bo where
  limit : Int
  room : Int
  now : St
  text : ByteArray
  talks : List Tk
end Bx
/-- May a box have this limit and this room? -/
def mayB (l r : Int) : Bool := decide (1 ≤ l ∧ l ≤ 4 ∧ 600 ≤ r ∧ r ≤ 4000)
theorem slAt_eq (s : Bx.St) (k : Nat) (h : k < s.slots.length) : s.slots[k] = Bx.slAt s k := by simp [Bx.slAt, h]

/-- The talk of a slot; -1: there is none. -/
def talkOf (l : List Bx.Tk) (n : Int) : Int := match l.findIdx? (fun t => t.num == n) with | some i => (i : Int) | none => -1
theorem talkOf_some {l : List Bx.Tk} {n : Int} {k : Nat} (h : k < l.length) (hk : l[k].num = n) (hj : ∀ j (h : j < l.length), j < k → ¬ l[j].num = n) : talkOf l n = k := by
  have : l.findIdx? (fun t => t.num == n) = some k := by
    rw [List.findIdx?_eq_some_iff_getElem]
    exact ⟨h, by simpa using hk, fun j hjk => by simpa using hj j (by omega) hjk⟩
  unfold talkOf; rw [this]
theorem talkOf_none {l : List Bx.Tk} {n : Int} (hj : ∀ j (h : j < l.length), ¬ l[j].num = n) : talkOf l n = -1 := by
  have : l.findIdx? (fun t => t.num == n) = none := by
    rw [List.findIdx?_eq_none_iff]
    intro x hx
    obtain ⟨j, hjl, rfl⟩ := List.getElem_of_mem hx
    simpa using hj j hjl
  unfold talkOf; rw [this]
theorem talkOf_bd (l : List Bx.Tk) (n : Int) : -1 ≤ talkOf l n ∧ talkOf l n < l.length := by
  unfold talkOf
  cases h : l.findIdx? (fun t => t.num == n) with
  | none => simp; omega
  | some i =>
    rw [List.findIdx?_eq_some_iff_getElem] at h
    obtain ⟨hi, _⟩ := h
    simp; omega

/-- A box that may be asked: its state, how long its log is, its talks. -/
structure BoOk (b : Bx.Bo) : Prop where
  st : Bx.StOk b.now
  txt : b.text.size ≤ 100000
  tks : b.talks.length ≤ 100
  since : ∀ t ∈ b.talks, -1 ≤ t.since ∧ t.since ≤ 4223371679
  ats : ∀ t ∈ b.talks, 0 ≤ t.at' ∧ t.at' ≤ 100
/-- Changes are added. -/
noncomputable def addB (b : Bx.Bo) (L : List Bx.Ch) : Bx.Bo := { b with text := b.text ++ Bx.frames L, now := Bx.told b.now L }
def fits (b : Bx.Bo) (L : List Bx.Ch) : Prop := ¬ b.room < (b.text.size : Int) + (Bx.frames L).size
def chT (tab : ByteArray) : Bx.Ch := ⟨84, tab, 0⟩
/-- What Load does and answers. -/
def LoadR (b : Bx.Bo) (tab : ByteArray) (b' : Bx.Bo) (a r : Int) : Prop :=
  (¬ r = 0 ∧ ChkR tab a r ∧ b' = b) ∨ (ChkR tab 0 0 ∧ 0 < b.now.slots.length ∧ b' = b ∧ a = 0 ∧ r = 5) ∨
  (ChkR tab 0 0 ∧ b.now.slots.length = 0 ∧ ¬ fits b [chT tab] ∧ b' = b ∧ a = 0 ∧ r = 13) ∨ (ChkR tab 0 0 ∧ b.now.slots.length = 0 ∧ fits b [chT tab] ∧ b' = addB b [chT tab] ∧ a = 0 ∧ r = 0)
def chCl (m : Int) : Bx.Ch := ⟨67, { data := #[] }, m⟩
def chF (n : Int) : Bx.Ch := ⟨70, { data := #[] }, n⟩
def tk0 : Bx.Tk := ⟨0, 0, 0, ByteArray.empty⟩
def tkAt (b : Bx.Bo) (i : Nat) : Bx.Tk := b.talks.getD i tk0
theorem tkAt_eq (b : Bx.Bo) (k : Nat) (h : k < b.talks.length) : b.talks[k] = tkAt b k := by simp [tkAt, h]
/-- Has a slot not been answered, when the clock becomes m? -/
def late (b : Bx.Bo) (m n : Int) : Bool := decide (0 ≤ talkOf b.talks n) && decide ((tkAt b (talkOf b.talks n).toNat).since + 3 ≤ m)
/-- The changes of a Tick, of the first k slots. -/
def tickK (b : Bx.Bo) (m : Int) : Nat → List Bx.Ch
  | 0 => [chCl m]
  | k + 1 => if late b m (Bx.slAt b.now k).num = true then tickK b m k ++ [chF (Bx.slAt b.now k).num] else tickK b m k
def tickL (b : Bx.Bo) (m : Int) : List Bx.Ch := tickK b m b.now.slots.length
theorem tickK_len (b : Bx.Bo) (m : Int) (k : Nat) : 1 ≤ (tickK b m k).length ∧ (tickK b m k).length ≤ k + 1 := by
  induction k with
  | zero => simp [tickK]
  | succ k ih => rw [tickK]; split <;> (try simp) <;> omega
/-- Does a talk's slot run still? -/
def goesOn (s : Bx.St) (t : Bx.Tk) : Bool := decide (0 ≤ Bx.find s t.num) && (Bx.slAt s (Bx.find s t.num).toNat).runs
def hushL (s : Bx.St) (l : List Bx.Tk) : List Bx.Tk := l.filter (goesOn s)
theorem hush_take (s : Bx.St) (l : List Bx.Tk) (k : Nat) (h : k < l.length) : hushL s (l.take (k + 1)) = if goesOn s l[k] = true then hushL s (l.take k) ++ [l[k]] else hushL s (l.take k) := by
  unfold hushL
  rw [List.take_succ_eq_append_getElem h, List.filter_append]
  split
  · rename_i e; simp [e]
  · rename_i e; simp [e]
theorem hush_len (s : Bx.St) (l : List Bx.Tk) : (hushL s l).length ≤ l.length := List.length_filter_le _ _
/-- What Tick does and answers. -/
noncomputable def tickP (b : Bx.Bo) (m : Int) : Bx.Bo × Int × Int :=
  if ¬ minB m = true then (b, 0, 4)
  else if ¬ Bx.ahead b.now m = true then (b, 0, 6)
  else if 10000 < b.now.next + ((Bx.comesS b.now m).length : Int) then (b, 0, 7)
  else if b.room < (b.text.size : Int) + (Bx.frames (tickL b m)).size then (b, 0, 13)
  else ({ addB b (tickL b m) with talks := hushL (Bx.told b.now (tickL b m)) b.talks }, ((Bx.comesS b.now m).length : Int), 0)

/-- What is said, from a step on; how many steps that is. -/
def saysL : List ByteArray → ByteArray × Nat
  | [] => (ByteArray.empty, 0)
  | s :: r => if s.data.toList.head? = some 60 then (ByteArray.empty, 0) else (s.extract 1 s.size ++ (saysL r).1, (saysL r).2 + 1)
theorem saysL_size (L : List ByteArray) (h : ∀ s ∈ L, s.size ≤ 9) : (saysL L).1.size ≤ L.length * 9 ∧ (saysL L).2 ≤ L.length := by
  induction L with
  | nil => simp [saysL]
  | cons s r ih =>
    have h1 := h s (by simp)
    have h2 := ih fun x hx => h x (by simp [hx])
    rw [saysL]
    split
    · simp
    · simp [ByteArray.size_append]; omega
theorem head_at {s : ByteArray} (h : 0 < s.size) : s.data.toList.head? = some s[0] := by
  have hl : 0 < s.data.toList.length := by simpa using h
  rw [List.head?_eq_getElem?, List.getElem?_eq_getElem hl]; rfl

/-- The steps of a slot's line. -/
def stepsS (s : Bx.St) (j : Nat) : List ByteArray := stepsOf (tl s.tab j)
/-- Why a slot may not be started. -/
def refusedP (b : Bx.Bo) (F : Int) : Int :=
  if F < 0 then 8 else if (Bx.slAt b.now F.toNat).runs = true then 9 else if b.now.clock < (Bx.slAt b.now F.toNat).frm then 10
  else if Bx.locked b.now F.toNat = true then 11 else if b.limit ≤ (Bx.running b.now : Int) then 12 else 0
def chK (n : Int) : Bx.Ch := ⟨75, { data := #[] }, n⟩
/-- What Cancel does and answers. -/
noncomputable def cancelP (b : Bx.Bo) (n : Int) : Bx.Bo × Int :=
  if Bx.find b.now n < 0 then (b, 8)
  else if b.room < (b.text.size : Int) + (Bx.frames [chK n]).size then (b, 13)
  else ({ addB b [chK n] with talks := hushL (Bx.told b.now [chK n]) b.talks }, 0)
/-- A number that is found is one of a slot's. -/
theorem find_num {s : Bx.St} {n : Int} (h : ¬ Bx.find s n < 0) : (Bx.slAt s (Bx.find s n).toNat).num = n := by
  have key : ∀ k, k ≤ s.slots.length → ¬ Bx.findK s.slots n k < 0 → (Bx.slAt s (Bx.findK s.slots n k).toNat).num = n := by
    intro k hk hn
    induction k with
    | zero => simp [Bx.findK] at hn
    | succ k ih =>
      rw [Bx.findK] at hn ⊢
      split
      · rename_i he
        have hkl : k < s.slots.length := by omega
        rw [List.getElem?_eq_getElem hkl] at he
        rw [Int.toNat_natCast, ← slAt_eq s k hkl]; simpa using he
      · rename_i he
        rw [if_neg he] at hn
        exact ih (by omega) hn
  exact key s.slots.length (Nat.le_refl _) h

def chS (n : Int) : Bx.Ch := ⟨83, { data := #[] }, n⟩
def chD (n : Int) : Bx.Ch := ⟨68, { data := #[] }, n⟩
/-- The changes of a Start. -/
def startC (L : List ByteArray) (n : Int) : List Bx.Ch := if (saysL L).2 = L.length then [chS n] ++ [chD n] else [chS n]
def startL (b : Bx.Bo) (n : Int) : List ByteArray := stepsS b.now ((Bx.slAt b.now (Bx.find b.now n).toNat).line - 1).toNat
/-- What Start does and answers. -/
noncomputable def startP (b : Bx.Bo) (n : Int) : Bx.Bo × ByteArray × Int :=
  if ¬ refusedP b (Bx.find b.now n) = 0 then (b, ByteArray.empty, refusedP b (Bx.find b.now n))
  else if b.room < (b.text.size : Int) + (Bx.frames (startC (startL b n) n)).size then (b, ByteArray.empty, 13)
  else ({ addB b (startC (startL b n) n) with talks := if (saysL (startL b n)).2 < (startL b n).length then b.talks ++ [⟨n, ((saysL (startL b n)).2 : Nat), b.now.clock, { data := #[] }⟩] else b.talks }, (saysL (startL b n)).1, 0)
open Classical in
theorem stepP_of {s : ByteArray} (h : Txt.stepB s = true) : Txt.StepP s := by unfold Txt.stepB at h; exact of_decide_eq_true h
theorem step_sz {l : ByteArray} (h : LineP l) : ∀ s ∈ stepsOf l, 2 ≤ s.size ∧ s.size ≤ 9 := by
  intro s hs
  unfold stepsOf at hs
  obtain ⟨k, hk, rfl⟩ := List.getElem_of_mem hs
  simp at hk
  have := h.stp (6 + k) (by omega) (by omega)
  rw [List.getElem_drop]
  exact ⟨(stepP_of this).1, (stepP_of this).2.1⟩

/-- What stands behind the first place of a word. -/
def behL (w : List UInt8) : List UInt8 → Option (List UInt8)
  | [] => if w = [] then some [] else none
  | a :: r => if w.isPrefixOf (a :: r) = true then some ((a :: r).drop w.length) else behL w r
theorem behL_yes {w t : List UInt8} (h : w.isPrefixOf t = true) : behL w t = some (t.drop w.length) := by
  cases t with
  | nil => cases w <;> simp [List.isPrefixOf] at h; simp [behL]
  | cons a r => rw [behL, if_pos h]
theorem behL_no {w : List UInt8} {a : UInt8} {r : List UInt8} (h : w.isPrefixOf (a :: r) = false) : behL w (a :: r) = behL w r := by rw [behL, h]; rfl
theorem behL_short {w t : List UInt8} (h : t.length < w.length) : behL w t = none := by
  induction t with
  | nil => cases w <;> simp [behL] at *
  | cons a r ih =>
    have hp : w.isPrefixOf (a :: r) = false := by
      cases hh : w.isPrefixOf (a :: r)
      · rfl
      · have := List.IsPrefix.length_le (List.isPrefixOf_iff_prefix.1 hh); omega
    rw [behL_no hp]; exact ih (by simp at h; omega)
theorem ext_list (y : ByteArray) (a b : Nat) : (y.extract a b).data.toList = (y.data.toList.drop a).take (b - a) := by
  rw [ByteArray.data_extract, Array.toList_extract]
/-- What behind answers. -/
def behS (t w : ByteArray) : ByteArray := match behL w.data.toList t.data.toList with | some l => ⟨l.toArray⟩ | none => ByteArray.empty
def behB (t w : ByteArray) : Bool := (behL w.data.toList t.data.toList).isSome

/-- A step's word. -/
def wordAt (L : List ByteArray) (a : Nat) : ByteArray := (L.getD a ByteArray.empty).extract 1 (L.getD a ByteArray.empty).size
/-- A talk behind what was heard, and what was said. -/
def hearF (L : List ByteArray) (c : Int) : Nat → Bx.Tk → Bx.Tk × ByteArray
  | 0, t => (t, ByteArray.empty)
  | n + 1, t => if (L.length : Int) ≤ t.at' then (t, ByteArray.empty) else if behB t.heard (wordAt L t.at'.toNat) = false then (t, ByteArray.empty)
    else ((hearF L c n ⟨t.num, ((t.at'.toNat + 1 + (saysL (L.drop (t.at'.toNat + 1))).2 : Nat) : Int), c, behS t.heard (wordAt L t.at'.toNat)⟩).1,
      (saysL (L.drop (t.at'.toNat + 1))).1 ++ (hearF L c n ⟨t.num, ((t.at'.toNat + 1 + (saysL (L.drop (t.at'.toNat + 1))).2 : Nat) : Int), c, behS t.heard (wordAt L t.at'.toNat)⟩).2)
theorem behL_len {w t r : List UInt8} (h : behL w t = some r) : r.length ≤ t.length := by
  induction t with
  | nil => simp [behL] at h; obtain ⟨_, rfl⟩ := h; simp
  | cons a q ih =>
    rw [behL] at h
    split at h
    · cases h; simp
    · have := ih h; simp; omega
theorem behS_size (t u : ByteArray) : (behS t u).size ≤ t.size := by
  unfold behS
  cases h : behL u.data.toList t.data.toList with
  | none => simp
  | some l =>
    have := behL_len h
    show l.toArray.size ≤ t.size
    simpa using this
theorem hearF_size (L : List ByteArray) (c : Int) (hL : ∀ s ∈ L, s.size ≤ 9) (hn : L.length ≤ 100) (n : Nat) (t : Bx.Tk) : (hearF L c n t).2.size ≤ n * 900 := by
  induction n generalizing t with
  | zero => simp [hearF]
  | succ n ih =>
    rw [hearF]
    split
    · simp
    · split
      · simp
      · have h1 := (saysL_size (L.drop (t.at'.toNat + 1)) (fun s h => hL s (List.mem_of_mem_drop h))).1
        have h2 := ih ⟨t.num, ((t.at'.toNat + 1 + (saysL (L.drop (t.at'.toNat + 1))).2 : Nat) : Int), c, behS t.heard (wordAt L t.at'.toNat)⟩
        have h3 : (L.drop (t.at'.toNat + 1)).length ≤ 100 := by simp; omega
        simp only [ByteArray.size_append]
        omega
theorem word_eq {L : List ByteArray} {a : Nat} (h : a < L.length) : L[a].extract 1 L[a].size = wordAt L a := by simp [wordAt, h]

/-- A talk with more heard. -/
def more (t : Bx.Tk) (x : ByteArray) : Bx.Tk := { t with heard := t.heard ++ x }
def feedH (b : Bx.Bo) (n : Int) (x : ByteArray) : Bx.Tk × ByteArray := hearF (startL b n) b.now.clock (startL b n).length (more (tkAt b (talkOf b.talks n).toNat) x)
/-- What Feed does and answers. -/
noncomputable def feedP (b : Bx.Bo) (n : Int) (x : ByteArray) : Bx.Bo × ByteArray × Int :=
  if 40 < x.size then (b, ByteArray.empty, 1)
  else if Bx.find b.now n < 0 then (b, ByteArray.empty, 8)
  else if talkOf b.talks n < 0 then (b, ByteArray.empty, 9)
  else if ((startL b n).length : Int) ≤ (feedH b n x).1.at' then
    (if b.room < (b.text.size : Int) + (Bx.frames [chD n]).size then (b, ByteArray.empty, 13) else ({ addB b [chD n] with talks := hushL (Bx.told b.now [chD n]) b.talks }, (feedH b n x).2, 0))
  else ({ b with talks := b.talks.set (talkOf b.talks n).toNat (feedH b n x).1 }, (feedH b n x).2, 0)

theorem skip_none (l : List Bx.Sl) (k : Nat) (hk : k ≤ l.length) : Bx.skipK l (-1) k = l.take k := by
  induction k with
  | zero => simp [Bx.skipK]
  | succ k ih =>
    rw [Bx.skipK, if_neg (by omega), ih (by omega), List.take_succ_eq_append_getElem hk, List.getElem?_eq_getElem hk]; rfl
theorem without_none (l : List Bx.Sl) : Bx.withoutL l (-1) = l := by rw [Bx.withoutL, skip_none l _ (Nat.le_refl _), List.take_length]
theorem without_len (l : List Bx.Sl) (a : Int) : (Bx.withoutL l a).length ≤ l.length := Bx.skipK_len l a l.length
theorem put_len (l : List Bx.Sl) (a : Int) (x : Bx.Sl) : (Bx.putL l a x).length ≤ l.length := Bx.putK_len l a x l.length
theorem putK_set (l : List Bx.Sl) (k : Nat) (y : Bx.Sl) (m : Nat) (hm : m ≤ l.length) : Bx.putK l k y m = (l.set k y).take m := by
  induction m with
  | zero => simp [Bx.putK]
  | succ m ih =>
    have hl : m < (l.set k y).length := by rw [List.length_set]; omega
    rw [Bx.putK, ih (by omega), List.take_succ_eq_append_getElem hl]
    congr 1
    by_cases h : m = k
    · subst h; simp
    · rw [if_neg (by omega), List.getElem_set_ne (by omega), List.getElem?_eq_getElem (by omega)]; rfl
theorem putL_set (l : List Bx.Sl) (k : Nat) (y : Bx.Sl) : Bx.putL l k y = l.set k y := by
  rw [Bx.putL, putK_set l k y _ (Nat.le_refl _)]
  rw [List.take_of_length_le (by simp)]
/-- It waits. -/
def clr (x : Bx.Sl) : Bx.Sl := { x with runs := false }
def intK (l : List Bx.Sl) (k : Nat) : List Bx.Sl := (l.take k).map clr ++ l.drop k
theorem intK_len (l : List Bx.Sl) (k : Nat) (h : k ≤ l.length) : (intK l k).length = l.length := by simp [intK]; omega
theorem intK_at (l : List Bx.Sl) (k : Nat) (h : k < l.length) : (intK l k)[k]'(by rw [intK_len l k (by omega)]; exact h) = l[k] := by
  simp only [intK]
  rw [List.getElem_append_right (by simp; omega)]
  simp [Nat.min_eq_left (Nat.le_of_lt h)]
theorem intK_next (l : List Bx.Sl) (k : Nat) (h : k < l.length) : (intK l k).set k (clr l[k]) = intK l (k + 1) := by
  have hl : ((l.take k).map clr).length = k := by simp; omega
  rw [intK, List.drop_eq_getElem_cons h, List.set_append_right _ _ (by omega), hl, Nat.sub_self, List.set_cons_zero, intK, List.take_succ_eq_append_getElem h, List.map_append, List.append_assoc]; rfl
def intS (s : Bx.St) : Bx.St := { s with slots := s.slots.map clr }
theorem tn_le {tab : ByteArray} (hT : ChkR tab 0 0) : tn tab ≤ 4 := by
  rcases hT with ⟨_, _, h2⟩ | ⟨_, _, _, h2⟩ | ⟨_, _, _, _, _, _, _, h2⟩ | ⟨_, _, _, _, _, h2⟩ | ⟨_, x, _, _, _, _⟩ <;> omega
/-- One that comes, with its number; the state behind it. -/
theorem arr_slot {s : Bx.St} {p : Nat × Int} (h : s.slots.length < 8) : Bx.arr s p = { Bx.with' s (s.slots ++ [Bx.slotOf p s.next]) 0 ByteArray.empty with next := s.next + 1 } := by
  rw [Bx.arr, if_pos h]; rfl
theorem arr_end {s : Bx.St} {p : Nat × Int} (h : ¬ s.slots.length < 8) (hn : 0 < s.next) : Bx.arr s p = { Bx.with' s s.slots s.next Bx.hS with next := s.next + 1 } := by
  rw [Bx.arr, if_neg h, Bx.with', if_pos hn]
theorem arr_len {s : Bx.St} (p : Nat × Int) (h : s.slots.length ≤ 8) (he : s.ends.length ≤ 6) : (Bx.arr s p).slots.length ≤ 8 ∧ (Bx.arr s p).ends.length ≤ 6 := by
  unfold Bx.arr; split
  · simp; omega
  · simp [Bx.push]; omega
theorem arr_next (s : Bx.St) (p : Nat × Int) : (Bx.arr s p).next = s.next + 1 := by unfold Bx.arr; split <;> rfl
theorem arrs_ok (l : List (Nat × Int)) (s : Bx.St) (h : s.slots.length ≤ 8) (he : s.ends.length ≤ 6) : (l.foldl Bx.arr s).slots.length ≤ 8 ∧ (l.foldl Bx.arr s).ends.length ≤ 6 ∧ (l.foldl Bx.arr s).next = s.next + l.length := by
  induction l generalizing s with
  | nil => exact ⟨h, he, by simp⟩
  | cons a r ih =>
    have h1 := arr_len a h he
    obtain ⟨i1, i2, i3⟩ := ih (Bx.arr s a) h1.1 h1.2
    refine ⟨i1, i2, ?_⟩
    rw [List.foldl_cons, i3, arr_next, List.length_cons]; push_cast; omega
theorem arrs_take (l : List (Nat × Int)) (s : Bx.St) (k : Nat) (h : k < l.length) : (l.take (k + 1)).foldl Bx.arr s = Bx.arr ((l.take k).foldl Bx.arr s) l[k] := by
  rw [List.take_succ_eq_append_getElem h, List.foldl_append]; rfl

theorem find_bd (s : Bx.St) (n : Int) : -1 ≤ Bx.find s n ∧ Bx.find s n < s.slots.length := Bx.findK_lt s.slots n s.slots.length

theorem hA_eq : Bx.hA = { data := #[97] } := by decide
theorem hK_eq : Bx.hK = { data := #[107] } := by decide
theorem hD_eq : Bx.hD = { data := #[100] } := by decide
theorem hS_eq : Bx.hS = { data := #[115] } := by decide
end Go.Proofs.YtdajolpoiffimabDoor

namespace Go.Proofs.YtdajolpoiffimabDoor
namespace Px
open Bx (Ln Cnt Lt)

/-- What comes behind the minute t, and at t from the line i on. -/
structure From (ls : List Ln) (m t : Int) (i : Nat) (out : List (Nat × Int)) : Prop where
  ord : out.Pairwise Lt
  mem : ∀ j u, (j, u) ∈ out ↔ (t < u ∨ (u = t ∧ i ≤ j)) ∧ u ≤ m ∧ ∃ h : j < ls.length, Cnt ls[j] m u
theorem From.start (ls : List Ln) (m : Int) : From ls m m ls.length [] :=
  ⟨List.Pairwise.nil, fun j u => ⟨(fun h => by cases h), (fun ⟨h1, h2, h3, _⟩ => by omega)⟩⟩
theorem From.yes {ls : List Ln} {m t : Int} {i : Nat} {out : List (Nat × Int)} (h : From ls m t (i + 1) out) (hi : i < ls.length) (ht : t ≤ m) (hc : Cnt ls[i] m t) : From ls m t i ((i, t) :: out) := by
  refine ⟨List.pairwise_cons.2 ⟨fun p hp => ?_, h.ord⟩, fun j u => ?_⟩
  · obtain ⟨j, u⟩ := p
    obtain ⟨h1, _, _⟩ := (h.mem j u).1 hp
    show t < u ∨ (t = u ∧ i < j)
    omega
  · rw [List.mem_cons, h.mem]
    constructor
    · rintro (e | ⟨h1, h2, h3⟩)
      · cases e; exact ⟨Or.inr ⟨rfl, Nat.le_refl _⟩, ht, hi, hc⟩
      · exact ⟨by omega, h2, h3⟩
    · rintro ⟨h1, h2, h3⟩
      by_cases q : j = i ∧ u = t
      · left; rw [q.1, q.2]
      · right; exact ⟨by omega, h2, h3⟩
theorem From.no {ls : List Ln} {m t : Int} {i : Nat} {out : List (Nat × Int)} (h : From ls m t (i + 1) out) (hi : i < ls.length) (hc : ¬ Cnt ls[i] m t) : From ls m t i out := by
  refine ⟨h.ord, fun j u => ?_⟩
  rw [h.mem]
  constructor
  · rintro ⟨h1, h2, h3⟩; exact ⟨by omega, h2, h3⟩
  · rintro ⟨h1, h2, h3, h4⟩
    refine ⟨?_, h2, h3, h4⟩
    by_cases q : j = i ∧ u = t
    · obtain ⟨rfl, rfl⟩ := q; exact absurd h4 hc
    · omega
theorem From.down {ls : List Ln} {m t : Int} {out : List (Nat × Int)} (h : From ls m t 0 out) : From ls m (t - 1) ls.length out := by
  refine ⟨h.ord, fun j u => ?_⟩
  rw [h.mem]
  constructor
  · rintro ⟨h1, h2, h3⟩; exact ⟨by omega, h2, h3⟩
  · rintro ⟨h1, h2, h3, h4⟩; exact ⟨by omega, h2, h3, h4⟩
theorem From.done {ls : List Ln} {a m : Int} {out : List (Nat × Int)} (h : From ls m (a - 1) ls.length out) : out = Bx.comes ls a m := by
  refine Bx.ComesR.uniq (a := a) (m := m) (ls := ls) ⟨h.ord, fun j u => ?_⟩ (Bx.comes_ok ls a m)
  rw [h.mem]
  constructor
  · rintro ⟨h1, h2, h3, h4⟩; exact ⟨h3, by omega, h2, h4⟩
  · rintro ⟨h3, h1, h2, h4⟩; exact ⟨by omega, h2, h3, h4⟩
open Classical in
/-- Was a line due behind a minute? -/
noncomputable def metB (l : Ln) (m t : Int) : Bool := decide (∃ u, t < u ∧ u ≤ m ∧ l.due u = true)
open Classical in
theorem met_start (l : Ln) (m : Int) : metB l m m = false := by
  unfold metB; exact decide_eq_false (fun ⟨u, h1, h2, _⟩ => by omega)
open Classical in
theorem met_yes {l : Ln} {m t : Int} (h : l.due t = true) (ht : t ≤ m) : metB l m (t - 1) = true := by
  unfold metB; exact decide_eq_true ⟨t, by omega, ht, h⟩
open Classical in
theorem met_no {l : Ln} {m t : Int} (h : l.due t = false) : metB l m (t - 1) = metB l m t := by
  unfold metB
  apply decide_eq_decide.2
  constructor
  · rintro ⟨u, h1, h2, h3⟩
    by_cases q : u = t
    · subst q; rw [h] at h3; cases h3
    · exact ⟨u, by omega, h2, h3⟩
  · rintro ⟨u, h1, h2, h3⟩; exact ⟨u, by omega, h2, h3⟩
/-- Does a minute at which the line is due count? -/
def cntB (c : Int) (now later : Bool) : Bool := if c = 108 then !later else if c = 110 then now else true
open Classical in
theorem cnt_iff {l : Ln} {m t : Int} (h : l.due t = true) : cntB l.catch' (t == m) (metB l m t) = true ↔ Cnt l m t := by
  unfold cntB Cnt metB
  by_cases q : l.catch' = 108
  · rw [if_pos q]
    constructor
    · intro e
      have : ¬ ∃ u, t < u ∧ u ≤ m ∧ l.due u = true := by simpa using e
      refine ⟨h, fun q' => by omega, fun _ u h1 h2 => ?_⟩
      cases hd : l.due u
      · rfl
      · exact absurd ⟨u, h1, h2, hd⟩ this
    · rintro ⟨_, _, h3⟩
      have : ¬ ∃ u, t < u ∧ u ≤ m ∧ l.due u = true := fun ⟨u, h1, h2, hd⟩ => by rw [h3 q u h1 h2] at hd; cases hd
      simpa using this
  · rw [if_neg q]
    by_cases q' : l.catch' = 110
    · rw [if_pos q']
      constructor
      · intro e; exact ⟨h, fun _ => by simpa using e, fun e' => absurd e' q⟩
      · rintro ⟨_, h2, _⟩; simpa using h2 q'
    · rw [if_neg q']
      exact ⟨fun _ => ⟨h, fun e => absurd e q', fun e => absurd e q⟩, fun _ => rfl⟩
theorem cnt_due {l : Ln} {m t : Int} (h : l.due t = false) : ¬ Cnt l m t := fun ⟨h1, _⟩ => by rw [h] at h1; cases h1
end Px
end Go.Proofs.YtdajolpoiffimabDoor

namespace Go.Proofs.YtdajolpoiffimabDoor
namespace Px

/-- No number twice. -/
def Dist (l : List Sl) : Prop := l.Pairwise fun a b => a.num ≠ b.num
theorem Ok.dist {s : St} (h : Ok s) : Dist s.slots := h.rise.imp fun h => by omega
theorem Dist.at {l : List Sl} (h : Dist l) {i j : Nat} (hi : i < l.length) (hj : j < l.length) (e : l[i].num = l[j].num) : i = j := by
  rcases Nat.lt_trichotomy i j with c | c | c
  · exact absurd e (List.pairwise_iff_getElem.1 h i j hi hj c)
  · exact c
  · exact absurd e.symm (List.pairwise_iff_getElem.1 h j i hj hi c)
theorem findK_no (l : List Bx.Sl) (n : Int) (h : ∀ x ∈ l, ¬ x.num = n) (k : Nat) : Bx.findK l n k = -1 := by
  induction k with
  | zero => rfl
  | succ k ih =>
    rw [Bx.findK, ih]
    split
    · rename_i e
      rcases Nat.lt_or_ge k l.length with c | c
      · rw [List.getElem?_eq_getElem c] at e; simp at e; exact absurd e (h _ (List.getElem_mem c))
      · rw [List.getElem?_eq_none c] at e; cases e
    · rfl
theorem findK_at (l : List Bx.Sl) (n : Int) (i : Nat) (hi : i < l.length) (e : l[i].num = n) (h : ∀ j (hj : j < l.length), l[j].num = n → j = i) (k : Nat) (hk : i < k) : Bx.findK l n k = i := by
  induction k with
  | zero => omega
  | succ k ih =>
    rw [Bx.findK]
    split
    · rename_i e'
      rcases Nat.lt_or_ge k l.length with c | c
      · rw [List.getElem?_eq_getElem c] at e'; simp at e'; rw [h k c e']
      · rw [List.getElem?_eq_none c] at e'; cases e'
    · rename_i e'
      by_cases q : i = k
      · subst q
        rw [List.getElem?_eq_getElem hi] at e'
        simp [e] at e'
      · exact ih (by omega)
theorem find_none {s : St} {n : Int} (h : find s.slots n = none) : Bx.find (abs s) n = -1 := by
  refine findK_no _ _ ?_ _
  intro x hx
  obtain ⟨y, hy, rfl⟩ := List.mem_map.1 hx
  have := List.find?_eq_none.1 h y hy
  simpa [absS] using this
theorem find_some {s : St} {n : Int} {x : Sl} (hd : Dist s.slots) (h : find s.slots n = some x) : ∃ i, ∃ hi : i < s.slots.length, s.slots[i] = x ∧ x.num = n ∧ Bx.find (abs s) n = i := by
  have hx := List.mem_of_find?_eq_some h
  have hn : x.num = n := by simpa using List.find?_some h
  obtain ⟨i, hi, rfl⟩ := List.mem_iff_getElem.1 hx
  refine ⟨i, hi, rfl, hn, ?_⟩
  have hl : (abs s).slots.length = s.slots.length := by simp [abs]
  refine findK_at _ _ i (by rw [hl]; exact hi) ?_ ?_ _ (by rw [hl]; exact hi)
  · simp [abs, absS, hn]
  · intro j hj e
    have hj' : j < s.slots.length := by rw [hl] at hj; exact hj
    refine hd.at hj' hi ?_
    rw [hn]; simpa [abs, absS] using e
theorem skipK_erase (l : List Bx.Sl) (i k : Nat) (hk : k ≤ l.length) : Bx.skipK l i k = (l.take k).eraseIdx i := by
  induction k with
  | zero => simp [Bx.skipK]
  | succ k ih =>
    have hk' : k < l.length := by omega
    rw [Bx.skipK, ih (by omega), List.take_succ_eq_append_getElem hk', List.getElem?_eq_getElem hk']
    by_cases q : k = i
    · subst q
      rw [if_pos rfl, List.eraseIdx_of_length_le (by simp; omega), List.eraseIdx_append_of_length_le (by simp; omega)]
      simp [Nat.min_eq_left (by omega : k ≤ l.length)]
    · rw [if_neg (by omega)]
      by_cases c : i < k
      · rw [List.eraseIdx_append_of_lt_length (by simp; omega)]; rfl
      · rw [List.eraseIdx_of_length_le (by simp; omega), List.eraseIdx_append_of_length_le (by simp; omega)]
        rw [List.eraseIdx_of_length_le (by simp; omega)]; rfl
theorem without_erase (l : List Bx.Sl) (i : Nat) : Bx.withoutL l i = l.eraseIdx i := by
  rw [Bx.withoutL, skipK_erase l i _ (Nat.le_refl _), List.take_length]
theorem skip_erase {l : List Sl} (hd : Dist l) {i : Nat} (hi : i < l.length) : skip l l[i].num = l.eraseIdx i := by
  induction l generalizing i with
  | nil => simp at hi
  | cons a r ih =>
    have hd' := List.pairwise_cons.1 hd
    cases i with
    | zero =>
      simp only [List.getElem_cons_zero, List.eraseIdx_cons_zero]
      unfold skip
      rw [List.filter_cons_of_neg (by simp), List.filter_eq_self]
      intro x hx
      have := hd'.1 x hx
      simp; exact fun e => this e.symm
    | succ i =>
      simp only [List.getElem_cons_succ, List.eraseIdx_cons_succ]
      have hi' : i < r.length := by simpa using hi
      have := hd'.1 r[i] (List.getElem_mem hi')
      unfold skip
      rw [List.filter_cons_of_pos (by simpa using this)]
      have := ih hd'.2 hi'
      unfold skip at this
      rw [this]
theorem repl_set {l : List Sl} (hd : Dist l) {i : Nat} (hi : i < l.length) (x : Sl) (hx : x.num = l[i].num) : repl l x = l.set i x := by
  apply List.ext_getElem
  · simp [repl]
  · intro j h1 h2
    have hj : j < l.length := by simpa [repl] using h1
    by_cases q : i = j
    · subst q; simp [repl, hx]
    · rw [List.getElem_set_ne q]
      have : ¬ l[j].num = l[i].num := fun e => q (hd.at hi hj e.symm)
      simp [repl, hx, this]
theorem map_erase {α β : Type} (f : α → β) (l : List α) (i : Nat) : (l.eraseIdx i).map f = (l.map f).eraseIdx i := by
  induction l generalizing i with
  | nil => simp
  | cons a r ih => cases i with
    | zero => simp
    | succ i => simp [ih]
theorem abs_skip {s : St} (hd : Dist s.slots) {i : Nat} (hi : i < s.slots.length) : (skip s.slots s.slots[i].num).map absS = Bx.withoutL (abs s).slots i := by
  rw [skip_erase hd hi, without_erase]
  exact map_erase _ _ _
theorem abs_repl {s : St} (hd : Dist s.slots) {i : Nat} (hi : i < s.slots.length) (x : Sl) (hx : x.num = s.slots[i].num) : (repl s.slots x).map absS = Bx.putL (abs s).slots i (absS x) := by
  rw [repl_set hd hi x hx, putL_set]
  simp only [abs]
  rw [List.map_set]
theorem slAt_abs {s : St} {i : Nat} (hi : i < s.slots.length) : Bx.slAt (abs s) i = absS s.slots[i] := by simp [Bx.slAt, abs, hi]
theorem opt_abs (s : St) (l : Int) (i : Nat) : Bx.opt (abs s) l i = opt s l i := rfl
/-- The changes are the same. -/
theorem cancel_abs {s : St} (hd : Dist s.slots) (n : Int) (hn : ∀ x ∈ s.slots, 1 ≤ x.num) :
    ((cancelP s n).2 = 8 ∧ Bx.find (abs s) n < 0) ∨ ((cancelP s n).2 = 0 ∧ Bx.aboutP (abs s) 75 n = (abs (cancelP s n).1, true)) := by
  unfold cancelP
  cases h : find s.slots n with
  | none => left; rw [find_none h]; exact ⟨rfl, by omega⟩
  | some x =>
    right
    obtain ⟨i, hi, rfl, hxn, hF⟩ := find_some hd h
    refine ⟨rfl, ?_⟩
    unfold Bx.aboutP
    rw [hF, if_neg (by omega), if_pos rfl]
    have h1 := hn _ (List.getElem_mem hi)
    simp only [Bx.with', ended]
    rw [if_pos (by omega), ← abs_skip hd hi, hxn]
    rfl
theorem done_abs {s : St} (hd : Dist s.slots) (n : Int) (hn : ∀ x ∈ s.slots, 1 ≤ x.num) :
    ((doneP s n).2 = 8 ∧ Bx.find (abs s) n < 0) ∨ ((doneP s n).2 = 9 ∧ ∃ i : Nat, Bx.find (abs s) n = i ∧ (Bx.slAt (abs s) i).runs = false) ∨ ((doneP s n).2 = 0 ∧ Bx.aboutP (abs s) 68 n = (abs (doneP s n).1, true)) := by
  unfold doneP
  cases h : find s.slots n with
  | none => left; rw [find_none h]; exact ⟨rfl, by omega⟩
  | some x =>
    right
    obtain ⟨i, hi, rfl, hxn, hF⟩ := find_some hd h
    by_cases hs : s.slots[i].step ≤ 0
    · left; simp only [hs, if_true]; exact ⟨trivial, i, hF, by rw [slAt_abs hi]; simp [absS]; omega⟩
    · right
      simp only [hs, if_false]
      refine ⟨trivial, ?_⟩
      unfold Bx.aboutP
      rw [hF, if_neg (by omega), if_neg (by omega), if_neg (by omega), if_pos rfl]
      have h1 := hn _ (List.getElem_mem hi)
      simp only [Bx.with', ended, Int.toNat_natCast]
      rw [if_pos (by omega), ← abs_skip hd hi, hxn, slAt_abs hi]
      have : (absS s.slots[i]).runs = true := by simp [absS]; omega
      rw [this]; rfl
theorem delay_bd (k : Int) : 2 ≤ Bx.delay k ∧ Bx.delay k ≤ 10 := by
  unfold Bx.delay; split
  · omega
  · split
    · omega
    · split <;> omega
theorem fail_abs {s : St} (hd : Dist s.slots) (n : Int) (hn : ∀ x ∈ s.slots, 1 ≤ x.num) (ha : ∀ x ∈ s.slots, x.att ≤ opt s x.line 2 - 48) :
    ((failP s n).2 = 8 ∧ Bx.find (abs s) n < 0) ∨ ((failP s n).2 = 9 ∧ ∃ i : Nat, Bx.find (abs s) n = i ∧ (Bx.slAt (abs s) i).runs = false) ∨ ((failP s n).2 = 0 ∧ Bx.aboutP (abs s) 70 n = (abs (failP s n).1, true)) := by
  unfold failP
  cases h : find s.slots n with
  | none => left; rw [find_none h]; exact ⟨rfl, by omega⟩
  | some x =>
    right
    obtain ⟨i, hi, rfl, hxn, hF⟩ := find_some hd h
    by_cases hs : s.slots[i].step ≤ 0
    · left; simp only [hs, if_true]; exact ⟨trivial, i, hF, by rw [slAt_abs hi]; simp [absS]; omega⟩
    · right
      have h1 := hn _ (List.getElem_mem hi)
      have h2 := ha _ (List.getElem_mem hi)
      have hr : (absS s.slots[i]).runs = true := by simp [absS]; omega
      simp only [hs, if_false]
      have e : Bx.aboutP (abs s) 70 n = (Bx.failed (abs s) i, true) := by
        unfold Bx.aboutP
        rw [hF, if_neg (by omega), if_neg (by omega), if_neg (by omega), if_neg (by omega), if_pos rfl]
        simp only [Int.toNat_natCast]
        rw [slAt_abs hi, hr]
      rw [e]
      unfold Bx.failed
      rw [slAt_abs hi, opt_abs]
      have e1 : (absS s.slots[i]).att = s.slots[i].att := rfl
      have e2 : (absS s.slots[i]).line = s.slots[i].line := rfl
      have e3 : (absS s.slots[i]).num = s.slots[i].num := rfl
      rw [e1, e2, e3]
      by_cases q : opt s s.slots[i].line 2 - 48 ≤ s.slots[i].att
      · rw [if_pos q, if_pos (by omega)]
        refine ⟨rfl, ?_⟩
        simp only [Bx.with', ended]
        rw [if_pos (by omega), ← abs_skip hd hi, hxn]
        rfl
      · rw [if_neg q, if_neg (by omega)]
        refine ⟨rfl, ?_⟩
        have := abs_repl hd hi (again s s.slots[i]) rfl
        simp only [Bx.with']
        rw [if_neg (by omega)]
        show _ = (({ tab := s.tab, clock := s.clock, next := s.next, slots := (repl s.slots (again s s.slots[i])).map absS, ends := s.ends } : Bx.St), true)
        rw [this]
        rfl
theorem runs_abs (s : St) : Bx.running (abs s) = runs s := by
  have : ∀ k, k ≤ s.slots.length → Bx.runK (abs s) k = ((s.slots.take k).filter fun x => decide (0 < x.step)).length := by
    intro k hk
    induction k with
    | zero => rfl
    | succ k ih =>
      have hk' : k < s.slots.length := by omega
      rw [Bx.runK, ih (by omega), slAt_abs hk', List.take_succ_eq_append_getElem hk', List.filter_append, List.length_append]
      congr 1
      by_cases q : 0 < s.slots[k].step <;> simp [absS, q]
  unfold Bx.running runs
  have hl : (abs s).slots.length = s.slots.length := by simp [abs]
  rw [hl, this _ (Nat.le_refl _), List.take_length]
theorem lock_abs {s : St} {i : Nat} (hi : i < s.slots.length) (hw : s.slots[i].step ≤ 0) : Bx.locked (abs s) i = lockP s s.slots[i].line := by
  have : ∀ k, k ≤ s.slots.length → Bx.lockK (abs s) i k = ((s.slots.take k).any fun x => decide (x.line = s.slots[i].line) && decide (0 < x.step)) := by
    intro k hk
    induction k with
    | zero => rfl
    | succ k ih =>
      have hk' : k < s.slots.length := by omega
      rw [Bx.lockK, ih (by omega), slAt_abs hk', slAt_abs hi, List.take_succ_eq_append_getElem hk', List.any_append]
      congr 1
      by_cases q : k = i
      · subst q; simp [absS]; omega
      · simp [absS, q]; rfl
  unfold Bx.locked lockP
  have hl : (abs s).slots.length = s.slots.length := by simp [abs]
  rw [hl, this _ (Nat.le_refl _), List.take_length, slAt_abs hi]
  rfl
end Px
end Go.Proofs.YtdajolpoiffimabDoor

namespace Go.Proofs.YtdajolpoiffimabDoor

/-- The last k bytes. -/
def lastN (k : Nat) (l : List UInt8) : List UInt8 := l.drop (l.length - k)
theorem lastN_app (k : Nat) (a b : List UInt8) : lastN k (lastN k a ++ b) = lastN k (a ++ b) := by
  unfold lastN
  have e : (List.drop (a.length - k) a ++ b) = (a ++ b).drop (a.length - k) := by rw [List.drop_append_of_le_length (by omega)]
  rw [e, List.drop_drop]
  congr 1
  simp; omega
theorem lastN_short {k : Nat} {l : List UInt8} (h : l.length ≤ k) : lastN k l = l := by
  unfold lastN; rw [Nat.sub_eq_zero_of_le h]; rfl
theorem behL_none {w : List UInt8} {a : UInt8} {r : List UInt8} (h : behL w (a :: r) = none) : w.isPrefixOf (a :: r) = false ∧ behL w r = none := by
  rw [behL] at h
  split at h
  · cases h
  · rename_i q; exact ⟨Bool.eq_false_iff.2 q, h⟩
theorem beh_last (w d t : List UInt8) (hw : 0 < w.length) (h : behL w d = none) : behL w (lastN (w.length - 1) d ++ t) = behL w (d ++ t) := by
  induction d with
  | nil => simp [lastN]
  | cons a r ih =>
    by_cases q : (a :: r).length ≤ w.length - 1
    · rw [lastN_short q]
    · obtain ⟨h1, h2⟩ := behL_none h
      have e : lastN (w.length - 1) (a :: r) = lastN (w.length - 1) r := by
        unfold lastN
        have : (a :: r).length - (w.length - 1) = (r.length - (w.length - 1)) + 1 := by simp at q ⊢; omega
        rw [this]; rfl
      rw [e, ih h2]
      have n1 : w.isPrefixOf (a :: r ++ t) = false := by
        cases c : w.isPrefixOf (a :: r ++ t)
        · rfl
        · exfalso
          rw [List.isPrefixOf_iff_prefix] at c
          have hp : w <+: a :: r := by
            refine List.prefix_of_prefix_length_le c (List.prefix_append _ _) ?_
            simp at q ⊢; omega
          rw [← List.isPrefixOf_iff_prefix, h1] at hp; cases hp
      rw [List.cons_append] at n1 ⊢
      rw [behL_no n1]

namespace Px
/-- The end of a text. -/
def lastB (h : ByteArray) (k : Nat) : ByteArray := if k < h.size then h.extract (h.size - k) h.size else h
theorem lastB_list (h : ByteArray) (k : Nat) : (lastB h k).data.toList = lastN k h.data.toList := by
  have hl : h.data.toList.length = h.size := by simp
  unfold lastB; split
  · rw [ext_list, lastN, hl, List.take_of_length_le (by simp)]
  · rw [lastN_short (by omega)]
theorem lastB_size (h : ByteArray) (k : Nat) : (lastB h k).size ≤ k ∨ lastB h k = h := by
  unfold lastB; split
  · left; simp [ByteArray.size_extract]; omega
  · right; rfl
abbrev says (s : ByteArray) : Bool := sayB s
/-- From step to step. -/
def goF (L : List ByteArray) (c : Int) : Nat → Sl → Sl × ByteArray
  | 0, x => (x, ByteArray.empty)
  | n + 1, x => if (L.length : Int) < x.step then (x, ByteArray.empty)
    else if says (L.getD (x.step - 1).toNat ByteArray.empty) = true then
      ((goF L c n { x with step := x.step + 1 }).1, wordAt L (x.step - 1).toNat ++ (goF L c n { x with step := x.step + 1 }).2)
    else if behB x.heard (wordAt L (x.step - 1).toNat) = false then ({ x with heard := lastB x.heard ((wordAt L (x.step - 1).toNat).size - 1) }, ByteArray.empty)
    else goF L c n { x with step := x.step + 1, heard := behS x.heard (wordAt L (x.step - 1).toNat), ans := c }
theorem ba_eq {a b : ByteArray} (h : a.data.toList = b.data.toList) : a = b := by
  cases a; cases b; simp at h; simp [h]
theorem ba_nil_app (a : ByteArray) : ByteArray.empty ++ a = a := by simp
theorem ba_app_nil (a : ByteArray) : a ++ ByteArray.empty = a := by simp
/-- What is said first. -/
theorem goF_says (L : List ByteArray) (c : Int) : ∀ (m i n : Nat) (x : Sl), L.length - i = m → i ≤ L.length → x.step = (i : Int) + 1 → m ≤ n →
    ∃ n', n - (saysL (L.drop i)).2 ≤ n' ∧ goF L c n x = ((goF L c n' { x with step := ((i + (saysL (L.drop i)).2 : Nat) : Int) + 1 }).1, (saysL (L.drop i)).1 ++ (goF L c n' { x with step := ((i + (saysL (L.drop i)).2 : Nat) : Int) + 1 }).2) := by
  intro m
  induction m with
  | zero =>
    intro i n x hm hi hx _
    have e : L.drop i = [] := List.drop_eq_nil_of_le (by omega)
    refine ⟨n, by simp [e, saysL], ?_⟩
    have hx' : { x with step := ((i + (saysL (L.drop i)).2 : Nat) : Int) + 1 } = x := by
      rw [e]; cases x; simp [saysL] at hx ⊢; omega
    rw [hx', e]; simp [saysL]
  | succ m ih =>
    intro i n x hm hi hx hn
    have hil : i < L.length := by omega
    rw [List.drop_eq_getElem_cons hil, saysL]
    by_cases q : L[i].data.toList.head? = some 60
    · rw [if_pos q]
      refine ⟨n, by omega, ?_⟩
      have hx' : { x with step := ((i + 0 : Nat) : Int) + 1 } = x := by
        cases x; simp at hx ⊢; omega
      rw [hx']; simp
    · rw [if_neg q]
      obtain ⟨n, rfl⟩ : ∃ k, n = k + 1 := ⟨n - 1, by omega⟩
      obtain ⟨n', h1, h2⟩ := ih (i + 1) n { x with step := x.step + 1 } (by omega) (by omega) (by rw [hx]; simp) (by omega)
      refine ⟨n', by simp only; omega, ?_⟩
      have e1 : (x.step - 1).toNat = i := by omega
      have e2 : L.getD i ByteArray.empty = L[i] := by simp [hil]
      have e3 : says L[i] = true := by unfold says sayB; simp [q]
      rw [goF, if_neg (by omega), e1, e2, if_pos e3, h2]
      have e4 : i + 1 + (saysL (L.drop (i + 1))).2 = i + ((saysL (L.drop (i + 1))).2 + 1) := by omega
      have e5 : wordAt L i = L[i].extract 1 L[i].size := by simp [wordAt, hil]
      simp only [e4, e5, ByteArray.append_assoc]
theorem saysL_stop (L : List ByteArray) (h : (saysL L).2 < L.length) : says L[(saysL L).2] = false := by
  induction L with
  | nil => simp at h
  | cons s r ih =>
    by_cases q : s.data.toList.head? = some 60
    · have e : saysL (s :: r) = (ByteArray.empty, 0) := by rw [saysL, if_pos q]
      simp only [e, List.getElem_cons_zero]
      unfold says sayB; simp [q]
    · have e : (saysL (s :: r)).2 = (saysL r).2 + 1 := by rw [saysL, if_neg q]
      have h' : (saysL r).2 < r.length := by rw [e] at h; simpa using h
      simp only [e, List.getElem_cons_succ]
      exact ih h'
theorem saysL_le (L : List ByteArray) : (saysL L).2 ≤ L.length := by
  induction L with
  | nil => simp [saysL]
  | cons s r ih => rw [saysL]; split <;> simp <;> omega
theorem stop_at (L : List ByteArray) (i : Nat) (h : i + (saysL (L.drop i)).2 < L.length) : says L[i + (saysL (L.drop i)).2] = false := by
  have := saysL_stop (L.drop i) (by rw [List.length_drop]; omega)
  rw [List.getElem_drop] at this; exact this
/-- A slot of the program's and a talk of the document's, at rest: at a step that is to be heard, whose word stands not in what was heard; the program keeps only its end. -/
structure Rest (L : List ByteArray) (x : Sl) (t : Bx.Tk) (a : Nat) : Prop where
  at' : t.at' = a
  le : a ≤ L.length
  step : x.step = (a : Int) + 1
  ans : x.ans = t.since
  hear : ∀ h : a < L.length, says L[a] = false ∧ behL (wordAt L a).data.toList t.heard.data.toList = none ∧ x.heard.data.toList = lastN ((wordAt L a).size - 1) t.heard.data.toList
/-- The same but for what stands in memory beside. -/
def Like (x y : Sl) : Prop := y.num = x.num ∧ y.line = x.line ∧ y.minute = x.minute ∧ y.att = x.att ∧ y.frm = x.frm
theorem Like.refl (x : Sl) : Like x x := ⟨rfl, rfl, rfl, rfl, rfl⟩
theorem Like.trans {x y z : Sl} (h : Like x y) (h' : Like y z) : Like x z := ⟨h'.1.trans h.1, h'.2.1.trans h.2.1, h'.2.2.1.trans h.2.2.1, h'.2.2.2.1.trans h.2.2.2.1, h'.2.2.2.2.trans h.2.2.2.2⟩
theorem hear_same (L : List ByteArray) (c : Int) : ∀ (m a fd fp : Nat) (x : Sl) (t : Bx.Tk), L.length - a = m → m ≤ fd → m + 1 ≤ fp → t.at' = a → a ≤ L.length → x.step = (a : Int) + 1 → x.ans = t.since →
    (∀ h : a < L.length, says L[a] = false ∧ behL (wordAt L a).data.toList x.heard.data.toList = behL (wordAt L a).data.toList t.heard.data.toList ∧
      (behL (wordAt L a).data.toList t.heard.data.toList = none → lastN ((wordAt L a).size - 1) x.heard.data.toList = lastN ((wordAt L a).size - 1) t.heard.data.toList)) →
    (goF L c fp x).2 = (hearF L c fd t).2 ∧ (∃ a', Rest L (goF L c fp x).1 (hearF L c fd t).1 a') ∧ Like x (goF L c fp x).1 ∧ (hearF L c fd t).1.num = t.num := by
  intro m
  induction m using Nat.strongRecOn with
  | ind m ih =>
    intro a fd fp x t hm hfd hfp hat hal hst han hh
    obtain ⟨fp, rfl⟩ : ∃ k, fp = k + 1 := ⟨fp - 1, by omega⟩
    by_cases ha : a < L.length
    · obtain ⟨fd, rfl⟩ : ∃ k, fd = k + 1 := ⟨fd - 1, by omega⟩
      obtain ⟨h1, h2, h3⟩ := hh ha
      have e1 : (x.step - 1).toNat = a := by omega
      have e2 : L.getD a ByteArray.empty = L[a] := by simp [ha]
      have e3 : t.at'.toNat = a := by omega
      have G : goF L c (fp + 1) x = if behB x.heard (wordAt L a) = false then ({ x with heard := lastB x.heard ((wordAt L a).size - 1) }, ByteArray.empty) else goF L c fp { x with step := x.step + 1, heard := behS x.heard (wordAt L a), ans := c } := by
        rw [goF, if_neg (by omega), e1, e2, if_neg (by rw [h1]; simp)]
      have H : hearF L c (fd + 1) t = if behB t.heard (wordAt L a) = false then (t, ByteArray.empty)
          else ((hearF L c fd ⟨t.num, ((a + 1 + (saysL (L.drop (a + 1))).2 : Nat) : Int), c, behS t.heard (wordAt L a)⟩).1, (saysL (L.drop (a + 1))).1 ++ (hearF L c fd ⟨t.num, ((a + 1 + (saysL (L.drop (a + 1))).2 : Nat) : Int), c, behS t.heard (wordAt L a)⟩).2) := by
        rw [hearF, if_neg (by omega), e3]
      rw [G, H]
      have eB : behB x.heard (wordAt L a) = behB t.heard (wordAt L a) := by unfold behB; rw [h2]
      have eS : behS x.heard (wordAt L a) = behS t.heard (wordAt L a) := by unfold behS; rw [h2]
      rw [eB, eS]
      by_cases q : behB t.heard (wordAt L a) = false
      · rw [if_pos q, if_pos q]
        have hn : behL (wordAt L a).data.toList t.heard.data.toList = none := by
          unfold behB at q; simpa using q
        exact ⟨rfl, ⟨a, hat, hal, hst, han, fun _ => ⟨h1, hn, by rw [lastB_list]; exact h3 hn⟩⟩, ⟨rfl, rfl, rfl, rfl, rfl⟩, rfl⟩
      · rw [if_neg q, if_neg q]
        obtain ⟨n', hn', hg⟩ := goF_says L c (L.length - (a + 1)) (a + 1) fp { x with step := x.step + 1, heard := behS t.heard (wordAt L a), ans := c } rfl (by omega) (by simp; omega) (by omega)
        rw [hg]
        have hk := saysL_le (L.drop (a + 1))
        rw [List.length_drop] at hk
        obtain ⟨r1, r2, r3, r4⟩ := ih (L.length - (a + 1 + (saysL (L.drop (a + 1))).2)) (by omega) (a + 1 + (saysL (L.drop (a + 1))).2) fd n'
          { x with step := ((a + 1 + (saysL (L.drop (a + 1))).2 : Nat) : Int) + 1, heard := behS t.heard (wordAt L a), ans := c }
          ⟨t.num, ((a + 1 + (saysL (L.drop (a + 1))).2 : Nat) : Int), c, behS t.heard (wordAt L a)⟩ rfl (by omega) (by omega) rfl (by omega) rfl rfl
          (fun h => ⟨stop_at L (a + 1) h, rfl, fun _ => rfl⟩)
        refine ⟨?_, r2, ?_, r4⟩
        · show _ ++ _ = _ ++ _
          rw [r1]
        · exact Like.trans ⟨rfl, rfl, rfl, rfl, rfl⟩ r3
    · have ea : a = L.length := by omega
      have e : hearF L c fd t = (t, ByteArray.empty) := by
        cases fd with
        | zero => rfl
        | succ fd => rw [hearF, if_pos (by omega)]
      rw [goF, if_pos (by omega), e]
      exact ⟨rfl, ⟨a, hat, hal, hst, han, fun h => by omega⟩, Like.refl _, rfl⟩
end Px
end Go.Proofs.YtdajolpoiffimabDoor

namespace Go.Proofs.YtdajolpoiffimabDoor
namespace Bx
/-- Texts one behind the other. -/
def cat : List ByteArray → ByteArray
  | [] => ByteArray.empty
  | x :: r => x ++ cat r
theorem cat_app (a b : List ByteArray) : cat (a ++ b) = cat a ++ cat b := by
  induction a with
  | nil => simp [cat]
  | cons x r ih => rw [List.cons_append, cat, cat, ih, ByteArray.append_assoc]
theorem cat_snoc (a : List ByteArray) (x : ByteArray) : cat (a ++ [x]) = cat a ++ x := by rw [cat_app]; simp [cat]
def mk1 (b : Bool) : Int := if b = true then 1 else 0
def encSl (x : Sl) : ByteArray := be x.num 2 ++ (be x.line 1 ++ (be x.minute 5 ++ (be x.att 1 ++ (be x.frm 5 ++ be (mk1 x.runs) 1))))
def encEn (x : En) : ByteArray := be x.num 2 ++ x.how
def encSt (s : St) : ByteArray := be (s.clock + 1) 5 ++ (be s.next 2 ++ (be s.tab.size 2 ++ (s.tab ++ (be s.slots.length 1 ++ (cat (s.slots.map encSl) ++ (be s.ends.length 1 ++ cat (s.ends.map encEn)))))))
/-- The body of a frame that holds a whole state. -/
def wholeS (s : St) : ByteArray := b1 90 ++ encSt s
/-- What fits into its bytes. -/
structure SlFit (x : Sl) : Prop where
  n : 0 ≤ x.num ∧ x.num < 65536
  l : 0 ≤ x.line ∧ x.line < 256
  m : 0 ≤ x.minute ∧ x.minute < 1099511627776
  a : 0 ≤ x.att ∧ x.att < 256
  f : 0 ≤ x.frm ∧ x.frm < 1099511627776
structure EnFit (x : En) : Prop where
  n : 0 ≤ x.num ∧ x.num < 65536
  h : x.how.size = 1
structure StFit (s : St) : Prop where
  c : -1 ≤ s.clock ∧ s.clock < 1099511627775
  n : 0 ≤ s.next ∧ s.next < 65536
  t : s.tab.size < 65536
  sl : s.slots.length < 256
  en : s.ends.length < 256
  es : ∀ x ∈ s.slots, SlFit x
  ee : ∀ x ∈ s.ends, EnFit x
end Bx
theorem pr_eta {α β : Type} (p : α × β) : p = (p.1, p.2) := rfl
namespace Px
open Bx
/-- A slot, the slots, the ends, a state: read. -/
def rdSlot (p : PS) : Sl × PS :=
  let a := numP 2 p
  let b := numP 1 a.2
  let c := numP 5 b.2
  let d := numP 1 c.2
  let e := numP 5 d.2
  let f := numP 1 e.2
  (⟨a.1, b.1, c.1, d.1, e.1, if f.1 = 1 then 1 else 0, 0, ByteArray.empty⟩, if f.1 = 1 ∨ f.1 = 0 then f.2 else ⟨f.2.rest, true⟩)
def rdSlotsK : Nat → PS → List Sl × PS
  | 0, p => ([], p)
  | k + 1, p => if p.wrong = true then ([], p) else ((rdSlot p).1 :: (rdSlotsK k (rdSlot p).2).1, (rdSlotsK k (rdSlot p).2).2)
def rdEnd (p : PS) : En × PS := (⟨(numP 2 p).1, (txtP 1 (numP 2 p).2).1⟩, (txtP 1 (numP 2 p).2).2)
def rdEndsK : Nat → PS → List En × PS
  | 0, p => ([], p)
  | k + 1, p => if p.wrong = true then ([], p) else ((rdEnd p).1 :: (rdEndsK k (rdEnd p).2).1, (rdEndsK k (rdEnd p).2).2)
def rdSlots (p : PS) : List Sl × PS := rdSlotsK (numP 1 p).1.toNat (numP 1 p).2
def rdEnds (p : PS) : List En × PS := rdEndsK (numP 1 p).1.toNat (numP 1 p).2
def rdState (p : PS) : St × PS :=
  let c := numP 5 p
  let n := numP 2 c.2
  let l := numP 2 n.2
  let t := txtP l.1 l.2
  let sl := rdSlots t.2
  let en := rdEnds sl.2
  (⟨t.1, c.1 - 1, n.1, sl.1, en.1⟩, en.2)

theorem rdSlot_eq {p pa pb pc pd pe pf : PS} {a b c d e f : Int} (ha : numP 2 p = (a, pa)) (hb : numP 1 pa = (b, pb)) (hc : numP 5 pb = (c, pc)) (hd : numP 1 pc = (d, pd)) (he : numP 5 pd = (e, pe)) (hf : numP 1 pe = (f, pf)) :
    rdSlot p = (⟨a, b, c, d, e, if f = 1 then 1 else 0, 0, ByteArray.empty⟩, if f = 1 ∨ f = 0 then pf else ⟨pf.rest, true⟩) := by
  unfold rdSlot; simp only [ha, hb, hc, hd, he, hf]
theorem numP_r {k : Nat} {p q : PS} {a : Int} (h : numP k p = (a, q)) (hw : q.wrong = false) : p.wrong = false ∧ p.rest = be a k ++ q.rest ∧ 0 ≤ a ∧ a < 256 ^ k := by
  have := numP_right (k := k) (p := p) (by rw [h]; exact hw)
  rw [h] at this; exact this
theorem txtP_r {k : Int} {p q : PS} {a : ByteArray} (h : txtP k p = (a, q)) (hw : q.wrong = false) : p.wrong = false ∧ p.rest = a ++ q.rest ∧ (a.size : Int) = k := by
  have := txtP_right (k := k) (p := p) (by rw [h]; exact hw)
  rw [h] at this; exact this
theorem rdSlot_right {p q : PS} {x : Sl} (h : rdSlot p = (x, q)) (hw : q.wrong = false) : p.wrong = false ∧ p.rest = encSl (absS x) ++ q.rest ∧ SlFit (absS x) := by
  obtain ⟨a, pa, ha⟩ : ∃ a pa, numP 2 p = (a, pa) := ⟨_, _, pr_eta _⟩
  obtain ⟨b, pb, hb⟩ : ∃ a q, numP 1 pa = (a, q) := ⟨_, _, pr_eta _⟩
  obtain ⟨c, pc, hc⟩ : ∃ a q, numP 5 pb = (a, q) := ⟨_, _, pr_eta _⟩
  obtain ⟨d, pd, hd⟩ : ∃ a q, numP 1 pc = (a, q) := ⟨_, _, pr_eta _⟩
  obtain ⟨e, pe, he⟩ : ∃ a q, numP 5 pd = (a, q) := ⟨_, _, pr_eta _⟩
  obtain ⟨f, pf, hf⟩ : ∃ a q, numP 1 pe = (a, q) := ⟨_, _, pr_eta _⟩
  rw [rdSlot_eq ha hb hc hd he hf] at h
  obtain ⟨rfl, rfl⟩ := Prod.mk.inj h
  have hm : f = 1 ∨ f = 0 := by
    by_cases q : f = 1 ∨ f = 0
    · exact q
    · rw [if_neg q] at hw; cases hw
  rw [if_pos hm] at hw ⊢
  obtain ⟨w6, e6, a6, b6⟩ := numP_r hf hw
  obtain ⟨w5, e5, a5, b5⟩ := numP_r he w6
  obtain ⟨w4, e4, a4, b4⟩ := numP_r hd w5
  obtain ⟨w3, e3, a3, b3⟩ := numP_r hc w4
  obtain ⟨w2, e2, a2, b2⟩ := numP_r hb w3
  obtain ⟨w1, e1, a1, b1⟩ := numP_r ha w2
  refine ⟨w1, ?_, ⟨⟨a1, by simpa [absS] using b1⟩, ⟨a2, by simpa [absS] using b2⟩, ⟨a3, by simpa [absS] using b3⟩, ⟨a4, by simpa [absS] using b4⟩, ⟨a5, by simpa [absS] using b5⟩⟩⟩
  have hk : mk1 (absS ⟨a, b, c, d, e, if f = 1 then 1 else 0, 0, ByteArray.empty⟩).runs = f := by
    unfold absS mk1; simp only
    rcases hm with q | q
    · rw [q]; rfl
    · rw [q]; rfl
  unfold encSl
  rw [hk]
  simp only [ByteArray.append_assoc, absS]
  rw [← e6, ← e5, ← e4, ← e3, ← e2, ← e1]
theorem rdSlot_enc (x : Bx.Sl) (hf : SlFit x) (r : ByteArray) : rdSlot ⟨encSl x ++ r, false⟩ = (⟨x.num, x.line, x.minute, x.att, x.frm, mk1 x.runs, 0, ByteArray.empty⟩, ⟨r, false⟩) := by
  have hm : mk1 x.runs = 1 ∨ mk1 x.runs = 0 := by unfold mk1; split <;> simp
  have hmb : 0 ≤ mk1 x.runs ∧ mk1 x.runs < 256 := by omega
  have e0 : encSl x ++ r = be x.num 2 ++ (be x.line 1 ++ (be x.minute 5 ++ (be x.att 1 ++ (be x.frm 5 ++ (be (mk1 x.runs) 1 ++ r))))) := by simp only [encSl, ByteArray.append_assoc]
  rw [e0]
  refine (rdSlot_eq (numP_be x.num 2 _ false hf.n.1 (by simpa using hf.n.2)) (numP_be x.line 1 _ false hf.l.1 (by simpa using hf.l.2)) (numP_be x.minute 5 _ false hf.m.1 (by simpa using hf.m.2)) (numP_be x.att 1 _ false hf.a.1 (by simpa using hf.a.2)) (numP_be x.frm 5 _ false hf.f.1 (by simpa using hf.f.2)) (numP_be (mk1 x.runs) 1 r false hmb.1 (by simpa using hmb.2))).trans ?_
  rw [if_pos hm]
  rcases hm with q | q <;> rw [q] <;> rfl
theorem rdSlotsK_right : ∀ (k : Nat) {p q : PS} {l : List Sl}, rdSlotsK k p = (l, q) → q.wrong = false → p.wrong = false ∧ p.rest = cat (l.map fun x => encSl (absS x)) ++ q.rest ∧ l.length = k ∧ ∀ x ∈ l, SlFit (absS x)
  | 0, p, q, l, h, hw => by
    rw [rdSlotsK] at h
    obtain ⟨rfl, rfl⟩ := Prod.mk.inj h
    exact ⟨hw, by simp [cat], rfl, by simp⟩
  | k + 1, p, q, l, h, hw => by
    rw [rdSlotsK] at h
    split at h
    · rename_i hp
      obtain ⟨rfl, rfl⟩ := Prod.mk.inj h
      rw [hp] at hw; cases hw
    · obtain ⟨y, py, hy⟩ : ∃ y py, rdSlot p = (y, py) := ⟨_, _, pr_eta _⟩
      obtain ⟨m, pm, hm⟩ : ∃ m pm, rdSlotsK k py = (m, pm) := ⟨_, _, pr_eta _⟩
      rw [hy] at h
      simp only at h
      rw [hm] at h
      obtain ⟨rfl, rfl⟩ := Prod.mk.inj h
      obtain ⟨h1, h2, h3, h4⟩ := rdSlotsK_right k hm hw
      obtain ⟨g1, g2, g3⟩ := rdSlot_right hy h1
      refine ⟨g1, ?_, by simp [h3], ?_⟩
      · rw [List.map_cons, cat, ByteArray.append_assoc, ← h2]; exact g2
      · intro x hx
        rcases List.mem_cons.1 hx with q | q
        · rw [q]; exact g3
        · exact h4 x q
/-- A slot that was read of what was written. -/
def rdOf (x : Bx.Sl) : Sl := ⟨x.num, x.line, x.minute, x.att, x.frm, mk1 x.runs, 0, ByteArray.empty⟩
theorem rdOf_abs (x : Bx.Sl) : absS (rdOf x) = x := by
  obtain ⟨a, b, c, d, e, f⟩ := x
  cases f <;> rfl
theorem rdSlotsK_enc (l : List Bx.Sl) (hf : ∀ x ∈ l, SlFit x) (r : ByteArray) : rdSlotsK l.length ⟨cat (l.map encSl) ++ r, false⟩ = (l.map rdOf, ⟨r, false⟩) := by
  induction l with
  | nil => simp [cat, rdSlotsK]
  | cons x l ih =>
    rw [List.length_cons, rdSlotsK, if_neg (by simp), List.map_cons, cat, ByteArray.append_assoc, rdSlot_enc x (hf x (by simp)), ih (fun y hy => hf y (by simp [hy]))]
    rfl
theorem rdEnd_right {p q : PS} {x : En} (h : rdEnd p = (x, q)) (hw : q.wrong = false) : p.wrong = false ∧ p.rest = encEn x ++ q.rest ∧ EnFit x := by
  obtain ⟨a, pa, ha⟩ : ∃ y py, numP 2 p = (y, py) := ⟨_, _, pr_eta _⟩
  obtain ⟨t, pt, ht⟩ : ∃ y py, txtP 1 pa = (y, py) := ⟨_, _, pr_eta _⟩
  unfold rdEnd at h
  rw [ha] at h
  simp only at h
  rw [ht] at h
  obtain ⟨rfl, rfl⟩ := Prod.mk.inj h
  obtain ⟨w2, e2, s2⟩ := txtP_r ht hw
  obtain ⟨w1, e1, a1, b1⟩ := numP_r ha w2
  refine ⟨w1, ?_, ⟨⟨a1, by simpa using b1⟩, by show t.size = 1; omega⟩⟩
  unfold encEn
  rw [ByteArray.append_assoc]
  show p.rest = be a 2 ++ (t ++ pt.rest)
  rw [← e2, ← e1]
theorem rdEnd_enc (x : En) (hf : EnFit x) (r : ByteArray) : rdEnd ⟨encEn x ++ r, false⟩ = (x, ⟨r, false⟩) := by
  unfold rdEnd encEn
  rw [ByteArray.append_assoc, numP_be _ 2 _ _ hf.n.1 (by simpa using hf.n.2), txtP_app _ _ _ _ (by rw [hf.h]; rfl)]
theorem rdEndsK_right : ∀ (k : Nat) {p q : PS} {l : List En}, rdEndsK k p = (l, q) → q.wrong = false → p.wrong = false ∧ p.rest = cat (l.map encEn) ++ q.rest ∧ l.length = k ∧ ∀ x ∈ l, EnFit x
  | 0, p, q, l, h, hw => by
    rw [rdEndsK] at h
    obtain ⟨rfl, rfl⟩ := Prod.mk.inj h
    exact ⟨hw, by simp [cat], rfl, by simp⟩
  | k + 1, p, q, l, h, hw => by
    rw [rdEndsK] at h
    split at h
    · rename_i hp
      obtain ⟨rfl, rfl⟩ := Prod.mk.inj h
      rw [hp] at hw; cases hw
    · obtain ⟨y, py, hy⟩ : ∃ y py, rdEnd p = (y, py) := ⟨_, _, pr_eta _⟩
      obtain ⟨m, pm, hm⟩ : ∃ m pm, rdEndsK k py = (m, pm) := ⟨_, _, pr_eta _⟩
      rw [hy] at h
      simp only at h
      rw [hm] at h
      obtain ⟨rfl, rfl⟩ := Prod.mk.inj h
      obtain ⟨h1, h2, h3, h4⟩ := rdEndsK_right k hm hw
      obtain ⟨g1, g2, g3⟩ := rdEnd_right hy h1
      refine ⟨g1, ?_, by simp [h3], ?_⟩
      · rw [List.map_cons, cat, ByteArray.append_assoc, ← h2]; exact g2
      · intro x hx
        rcases List.mem_cons.1 hx with q | q
        · rw [q]; exact g3
        · exact h4 x q
theorem rdEndsK_enc (l : List En) (hf : ∀ x ∈ l, EnFit x) (r : ByteArray) : rdEndsK l.length ⟨cat (l.map encEn) ++ r, false⟩ = (l, ⟨r, false⟩) := by
  induction l with
  | nil => simp [cat, rdEndsK]
  | cons x l ih =>
    rw [List.length_cons, rdEndsK, if_neg (by simp), List.map_cons, cat, ByteArray.append_assoc, rdEnd_enc x (hf x (by simp)), ih (fun y hy => hf y (by simp [hy]))]
theorem rdSlots_right {p q : PS} {l : List Sl} (h : rdSlots p = (l, q)) (hw : q.wrong = false) : p.wrong = false ∧ p.rest = be l.length 1 ++ (cat (l.map fun x => encSl (absS x)) ++ q.rest) ∧ l.length < 256 ∧ ∀ x ∈ l, SlFit (absS x) := by
  obtain ⟨h1, h2, h3, h4⟩ := rdSlotsK_right _ h hw
  obtain ⟨w1, e1, a1, b1⟩ := numP_r (p := p) (a := (numP 1 p).1) (q := (numP 1 p).2) (pr_eta _) h1
  have hl : (numP 1 p).1 = (l.length : Int) := by omega
  refine ⟨w1, by rw [← h2, ← hl]; exact e1, by simp at b1; omega, h4⟩
theorem rdSlots_enc (l : List Bx.Sl) (hl : l.length < 256) (hf : ∀ x ∈ l, SlFit x) (r : ByteArray) : rdSlots ⟨be l.length 1 ++ (cat (l.map encSl) ++ r), false⟩ = (l.map rdOf, ⟨r, false⟩) := by
  unfold rdSlots
  rw [numP_be _ 1 _ _ (by omega) (by simp; omega), Int.toNat_natCast, rdSlotsK_enc l hf]
theorem rdEnds_right {p q : PS} {l : List En} (h : rdEnds p = (l, q)) (hw : q.wrong = false) : p.wrong = false ∧ p.rest = be l.length 1 ++ (cat (l.map encEn) ++ q.rest) ∧ l.length < 256 ∧ ∀ x ∈ l, EnFit x := by
  obtain ⟨h1, h2, h3, h4⟩ := rdEndsK_right _ h hw
  obtain ⟨w1, e1, a1, b1⟩ := numP_r (p := p) (a := (numP 1 p).1) (q := (numP 1 p).2) (pr_eta _) h1
  have hl : (numP 1 p).1 = (l.length : Int) := by omega
  refine ⟨w1, by rw [← h2, ← hl]; exact e1, by simp at b1; omega, h4⟩
theorem rdEnds_enc (l : List En) (hl : l.length < 256) (hf : ∀ x ∈ l, EnFit x) (r : ByteArray) : rdEnds ⟨be l.length 1 ++ (cat (l.map encEn) ++ r), false⟩ = (l, ⟨r, false⟩) := by
  unfold rdEnds
  rw [numP_be _ 1 _ _ (by omega) (by simp; omega), Int.toNat_natCast, rdEndsK_enc l hf]
theorem rdState_eq {p pc pn pl pt ps pe : PS} {c n l : Int} {t : ByteArray} {sl : List Sl} {en : List En} (hc : numP 5 p = (c, pc)) (hn : numP 2 pc = (n, pn)) (hl : numP 2 pn = (l, pl)) (ht : txtP l pl = (t, pt)) (hs : rdSlots pt = (sl, ps)) (he : rdEnds ps = (en, pe)) :
    rdState p = (⟨t, c - 1, n, sl, en⟩, pe) := by
  unfold rdState; simp only [hc, hn, hl, ht, hs, he]
theorem rdState_right {p q : PS} {s : St} (h : rdState p = (s, q)) (hw : q.wrong = false) : p.wrong = false ∧ p.rest = encSt (abs s) ++ q.rest ∧ StFit (abs s) := by
  obtain ⟨c, pc, hc⟩ : ∃ a q, numP 5 p = (a, q) := ⟨_, _, pr_eta _⟩
  obtain ⟨n, pn, hn⟩ : ∃ a q, numP 2 pc = (a, q) := ⟨_, _, pr_eta _⟩
  obtain ⟨l, pl, hl⟩ : ∃ a q, numP 2 pn = (a, q) := ⟨_, _, pr_eta _⟩
  obtain ⟨t, pt, ht⟩ : ∃ a q, txtP l pl = (a, q) := ⟨_, _, pr_eta _⟩
  obtain ⟨sl, ps, hs⟩ : ∃ a q, rdSlots pt = (a, q) := ⟨_, _, pr_eta _⟩
  obtain ⟨en, pe, he⟩ : ∃ a q, rdEnds ps = (a, q) := ⟨_, _, pr_eta _⟩
  rw [rdState_eq hc hn hl ht hs he] at h
  obtain ⟨rfl, rfl⟩ := Prod.mk.inj h
  obtain ⟨w6, e6, l6, f6⟩ := rdEnds_right he hw
  obtain ⟨w5, e5, l5, f5⟩ := rdSlots_right hs w6
  obtain ⟨w4, e4, s4⟩ := txtP_r ht w5
  obtain ⟨w3, e3, a3, b3⟩ := numP_r hl w4
  obtain ⟨w2, e2, a2, b2⟩ := numP_r hn w3
  obtain ⟨w1, e1, a1, b1⟩ := numP_r hc w2
  simp at b1 b2 b3
  refine ⟨w1, ?_, ⟨⟨by show -1 ≤ c - 1; omega, by show c - 1 < _; omega⟩, ⟨a2, b2⟩, by show t.size < 65536; omega, by simpa [abs] using l5, l6, ?_, f6⟩⟩
  · unfold encSt abs
    simp only [ByteArray.append_assoc, List.length_map, List.map_map]
    rw [show c - 1 + 1 = c by omega, s4, ← e6]
    rw [show (encSl ∘ absS) = fun x => encSl (absS x) from rfl, ← e5, ← e4, ← e3, ← e2, ← e1]
  · intro x hx
    obtain ⟨y, hy, rfl⟩ := List.mem_map.1 hx
    exact f5 y hy
/-- A state that was read of what was written. -/
def rdSt (s : Bx.St) : St := ⟨s.tab, s.clock, s.next, s.slots.map rdOf, s.ends⟩
theorem rdSt_abs (s : Bx.St) : abs (rdSt s) = s := by
  obtain ⟨a, b, c, d, e⟩ := s
  unfold abs rdSt
  simp only [List.map_map]
  have : (absS ∘ rdOf) = id := funext rdOf_abs
  rw [this, List.map_id]
theorem rdState_enc (s : Bx.St) (hf : StFit s) (r : ByteArray) : rdState ⟨encSt s ++ r, false⟩ = (rdSt s, ⟨r, false⟩) := by
  have e0 : encSt s ++ r = be (s.clock + 1) 5 ++ (be s.next 2 ++ (be s.tab.size 2 ++ (s.tab ++ (be s.slots.length 1 ++ (cat (s.slots.map encSl) ++ (be s.ends.length 1 ++ (cat (s.ends.map encEn) ++ r))))))) := by simp only [encSt, ByteArray.append_assoc]
  rw [e0]
  have hc := hf.c
  have ht := hf.t
  refine (rdState_eq (numP_be (s.clock + 1) 5 _ false (by omega) (by simp; omega)) (numP_be s.next 2 _ false hf.n.1 (by simpa using hf.n.2)) (numP_be (s.tab.size : Int) 2 _ false (by omega) (by simp; omega)) (txtP_app s.tab _ false _ rfl) (rdSlots_enc s.slots hf.sl hf.es _) (rdEnds_enc s.ends hf.en hf.ee r)).trans ?_
  rw [show s.clock + 1 - 1 = s.clock by omega]; rfl
end Px
end Go.Proofs.YtdajolpoiffimabDoor

namespace Go.Proofs.YtdajolpoiffimabDoor
namespace Bx
theorem sum_bd (s : ByteArray) : 0 ≤ Crc.sumR s ∧ Crc.sumR s < 4294967296 := by
  have := Crc.crc_lt s.data.toList
  unfold Crc.sumR; omega
theorem app_inj {a b c d : ByteArray} (h : a ++ b = c ++ d) (hs : a.size = c.size) : a = c ∧ b = d := by
  have e : a.data.toList ++ b.data.toList = c.data.toList ++ d.data.toList := by
    have := congrArg (fun x : ByteArray => x.data.toList) h
    simpa [ByteArray.data_append] using this
  obtain ⟨h1, h2⟩ := List.append_inj e (by rw [ba_len, ba_len, hs])
  exact ⟨ba_ext h1, ba_ext h2⟩
theorem app_nil {a b : ByteArray} (h : a ++ b = ByteArray.empty) : a = ByteArray.empty ∧ b = ByteArray.empty := by
  have e := congrArg ByteArray.size h
  rw [ByteArray.size_append] at e
  simp at e
  exact e
/-- A frame stands at the head of a log. -/
def Nx (r b more : ByteArray) : Prop := r = frame b ++ more ∧ b.size < 65536
theorem be_inj {n m : Int} {k : Nat} (h : be n k = be m k) (n0 : 0 ≤ n) (n1 : n < 256 ^ k) (m0 : 0 ≤ m) (m1 : m < 256 ^ k) : n = m := by
  rw [← nB_be n k n0 n1, ← nB_be m k m0 m1, h]
theorem Nx.uniq {r b more b' more' : ByteArray} (h : Nx r b more) (h' : Nx r b' more') : b = b' ∧ more = more' := by
  obtain ⟨e, hb⟩ := h
  obtain ⟨e', hb'⟩ := h'
  rw [e] at e'
  unfold frame at e'
  simp only [ByteArray.append_assoc] at e'
  obtain ⟨e1, e2⟩ := app_inj e' (by rw [be_size, be_size])
  have hz := be_inj e1 (by omega) (by simp; omega) (by omega) (by simp; omega)
  obtain ⟨e3, e4⟩ := app_inj e2 (by omega)
  obtain ⟨_, e5⟩ := app_inj e4 (by rw [be_size, be_size])
  exact ⟨e3, e5⟩
theorem Nx.app {r b more : ByteArray} (h : Nx r b more) (r2 : ByteArray) : Nx (r ++ r2) b (more ++ r2) := ⟨by rw [h.1, ByteArray.append_assoc], h.2⟩
theorem Nx.lt {r b more : ByteArray} (h : Nx r b more) : more.size < r.size := by rw [h.1, ByteArray.size_append, frame_size]; omega
theorem Nx.ne {r b more : ByteArray} (h : Nx r b more) : r ≠ ByteArray.empty := by
  intro e; have := h.lt; rw [e] at this; simp at this
/-- A frame that is cut is none. -/
theorem no_cut {b r1 r2 : ByteArray} (hb : b.size < 65536) (h : frame b = r1 ++ r2) (h2 : r2 ≠ ByteArray.empty) : ¬ ∃ b' more, Nx r1 b' more := by
  rintro ⟨b', more, hN⟩
  have h1 : Nx (frame b) b ByteArray.empty := ⟨by simp, hb⟩
  have h3 : Nx (frame b) b' (more ++ r2) := by rw [h]; exact hN.app r2
  exact h2 (app_nil (h1.uniq h3).2.symm).2
/-- A change that fits into its bytes. -/
def ChFit (c : Ch) : Prop := (c.kind = 84 ∧ c.n = 0) ∨ (c.kind = 67 ∧ c.tab = ByteArray.empty ∧ 0 ≤ c.n ∧ c.n < 1099511627776) ∨ ((c.kind = 83 ∨ c.kind = 68 ∨ c.kind = 70 ∨ c.kind = 75) ∧ c.tab = ByteArray.empty ∧ 0 ≤ c.n ∧ c.n < 65536)
def IsCh (b : ByteArray) (c : Ch) : Prop := ChFit c ∧ body c = b
theorem ChFit.kind {c : Ch} (h : ChFit c) : 0 ≤ c.kind ∧ c.kind < 256 ∧ c.kind ≠ 90 := by rcases h with h | h | h <;> omega
theorem b1_be (n : Int) : b1 n = be n 1 := by simp [be]
theorem IsCh.uniq {b : ByteArray} {c c' : Ch} (h : IsCh b c) (h' : IsCh b c') : c = c' := by
  obtain ⟨f, e⟩ := h
  obtain ⟨f', e'⟩ := h'
  rw [← e'] at e
  unfold body at e
  obtain ⟨e1, e2⟩ := app_inj e (by rw [b1_size, b1_size])
  rw [b1_be, b1_be] at e1
  have k1 := f.kind
  have k2 := f'.kind
  have hk := be_inj e1 k1.1 (by simpa using k1.2.1) k2.1 (by simpa using k2.2.1)
  obtain ⟨k, t, n⟩ := c
  obtain ⟨k', t', n'⟩ := c'
  simp only at hk e2
  subst hk
  rcases f with ⟨q, q1⟩ | ⟨q, q1, q2, q3⟩ | ⟨q, q1, q2, q3⟩
  · simp only at q q1
    subst q q1
    rcases f' with ⟨p, p1⟩ | ⟨p, p1, p2, p3⟩ | ⟨p, p1, p2, p3⟩
    · simp only at p1; subst p1
      rw [if_pos rfl, if_pos rfl] at e2
      rw [e2]
    · cases p
    · simp at p
  · simp only at q q1 q2 q3
    subst q q1
    rcases f' with ⟨p, p1⟩ | ⟨p, p1, p2, p3⟩ | ⟨p, p1, p2, p3⟩
    · cases p
    · simp only at p1 p2 p3; subst p1
      rw [if_neg (show ¬ (67 : Int) = 84 by decide), if_pos rfl, if_neg (show ¬ (67 : Int) = 84 by decide), if_pos rfl] at e2
      rw [be_inj e2 q2 (by simpa using q3) p2 (by simpa using p3)]
    · simp at p
  · simp only at q q1 q2 q3
    subst q1
    have h84 : ¬ k = 84 := by omega
    have h67 : ¬ k = 67 := by omega
    rcases f' with ⟨p, p1⟩ | ⟨p, p1, p2, p3⟩ | ⟨p, p1, p2, p3⟩
    · exact absurd p h84
    · exact absurd p h67
    · simp only at p1 p2 p3; subst p1
      rw [if_neg h84, if_neg h84, if_neg h67, if_neg h67] at e2
      rw [be_inj e2 q2 (by simpa using q3) p2 (by simpa using p3)]
/-- A slot, an end, a state that may be. -/
structure MaySl (s : St) (x : Sl) : Prop where
  n : 1 ≤ x.num ∧ x.num < s.next
  l : 1 ≤ x.line ∧ x.line ≤ tn s.tab
  m0 : 0 ≤ x.minute
  m : x.minute ≤ s.clock
  a : 1 ≤ x.att ∧ x.att ≤ opt s x.line 2 - 48
  f1 : x.att = 1 → x.frm = x.minute
  f2 : x.att ≠ 1 → x.minute < x.frm ∧ x.frm ≤ s.clock + 10
  r : x.runs = true → x.frm ≤ s.clock
structure MayEn (s : St) (x : En) : Prop where
  n : 1 ≤ x.num ∧ x.num < s.next
  h : x.how = hD ∨ x.how = hA ∨ x.how = hK ∨ x.how = hS
  o : ∀ y ∈ s.slots, y.num ≠ x.num
structure MayS (s : St) : Prop where
  tab : ChkR s.tab 0 0
  c1 : -1 ≤ s.clock
  c2 : s.clock ≤ 4223371679
  n1 : 1 ≤ s.next
  n2 : s.next ≤ 10000
  sl : s.slots.length ≤ 8
  en : s.ends.length ≤ 6
  rise : s.slots.Pairwise fun a b => a.num < b.num
  lock : s.slots.Pairwise fun a b => a.line = b.line → opt s a.line 0 = 120 → a.runs = true → b.runs = true → False
  dif : s.ends.Pairwise fun a b => a.num ≠ b.num
  es : ∀ x ∈ s.slots, MaySl s x
  ee : ∀ x ∈ s.ends, MayEn s x
theorem MayS.ok {s : St} (h : MayS s) : StOk s := ⟨h.tab, h.c1, h.c2, h.n1, h.n2, h.sl, h.en, fun x hx => ⟨(h.es x hx).n.1, (h.es x hx).n.2, (h.es x hx).l.1, (h.es x hx).l.2, (h.es x hx).a.1, (h.es x hx).a.2⟩⟩
theorem first_may : MayS first := ⟨empty_tab, by decide, by decide, by decide, by decide, by decide, by decide, by simp [first], by simp [first], by simp [first], by simp [first], by simp [first]⟩
theorem how_size {h : ByteArray} (e : h = hD ∨ h = hA ∨ h = hK ∨ h = hS) : h.size = 1 := by rcases e with rfl | rfl | rfl | rfl <;> rfl
theorem MayS.fit {s : St} (h : MayS s) : StFit s := by
  have h300 := h.tab.lines.1
  have h4 := tn_le h.tab
  have hc1 := h.c1; have hc2 := h.c2; have hn1 := h.n1; have hn2 := h.n2; have hsl := h.sl; have hen := h.en
  refine ⟨⟨hc1, by omega⟩, ⟨by omega, by omega⟩, by omega, by omega, by omega, fun x hx => ?_, fun x hx => ?_⟩
  · have q := h.es x hx
    have q1 := q.n; have q2 := q.l; have q3 := q.m; have q4 := q.a
    have q5 := q.m0
    have q6 := h.ok.att5 hx
    have q7 : 0 ≤ x.frm ∧ x.frm < 1099511627776 := by
      by_cases e : x.att = 1
      · have := q.f1 e; omega
      · have := q.f2 e; omega
    exact ⟨⟨by omega, by omega⟩, ⟨by omega, by omega⟩, ⟨q5, by omega⟩, ⟨by omega, by omega⟩, q7⟩
  · have q := h.ee x hx
    exact ⟨by have := q.n; omega, how_size q.h⟩
/-- A body holds a whole state. -/
def IsZ (b : ByteArray) (s : St) : Prop := MayS s ∧ wholeS s = b
theorem IsZ.uniq {b : ByteArray} {s t : St} (h : IsZ b s) (h' : IsZ b t) : s = t := by
  obtain ⟨f, e⟩ := h
  obtain ⟨f', e'⟩ := h'
  rw [← e'] at e
  unfold wholeS at e
  obtain ⟨_, e2⟩ := app_inj e rfl
  have h1 := Px.rdState_enc s f.fit ByteArray.empty
  have h2 := Px.rdState_enc t f'.fit ByteArray.empty
  rw [e2, h2] at h1
  have := congrArg (fun p => Px.abs p.1) h1
  simp only [Px.rdSt_abs] at this
  exact this.symm
theorem IsZ.no_ch {b : ByteArray} {s : St} {c : Ch} (h : IsZ b s) (h' : IsCh b c) : False := by
  obtain ⟨_, e⟩ := h
  obtain ⟨f, e'⟩ := h'
  rw [← e'] at e
  unfold wholeS body at e
  obtain ⟨e1, _⟩ := app_inj e rfl
  rw [b1_be, b1_be] at e1
  have k := f.kind
  exact k.2.2 (be_inj e1 (by decide) (by decide) k.1 (by simpa using k.2.1)).symm
/-- A frame's body, right behind a state. -/
def Stp (first : Bool) (s : St) (b : ByteArray) (t : St) : Prop := (first = true ∧ IsZ b t) ∨ (∃ c, IsCh b c ∧ (doP s c).2 = true ∧ t = (doP s c).1)
theorem Stp.uniq {fl : Bool} {s t t' : St} {b : ByteArray} (h : Stp fl s b t) (h' : Stp fl s b t') : t = t' := by
  rcases h with ⟨_, h⟩ | ⟨c, h, _, rfl⟩
  · rcases h' with ⟨_, h'⟩ | ⟨c, h', _⟩
    · exact h.uniq h'
    · exact (h.no_ch h').elim
  · rcases h' with ⟨_, h'⟩ | ⟨c', h', _, rfl⟩
    · exact (h'.no_ch h).elim
    · rw [h.uniq h']
/-- What a log says: the state, and what is left of the log. -/
inductive Says : Bool → St → ByteArray → St → ByteArray → Prop
  | stop (fl : Bool) (s : St) (r : ByteArray) (h : ¬ ∃ b more t, Nx r b more ∧ Stp fl s b t) : Says fl s r s r
  | go {fl : Bool} {s t u : St} {r b more q : ByteArray} (h1 : Nx r b more) (h2 : Stp fl s b t) (h3 : Says false t more u q) : Says fl s r u q
theorem Says.uniq {fl : Bool} {s u u' : St} {r q q' : ByteArray} (h : Says fl s r u q) (h' : Says fl s r u' q') : u = u' ∧ q = q' := by
  induction h with
  | stop fl s r hn =>
    cases h' with
    | stop => exact ⟨rfl, rfl⟩
    | go h1 h2 h3 => exact (hn ⟨_, _, _, h1, h2⟩).elim
  | go h1 h2 _ ih =>
    cases h' with
    | stop _ _ _ hn => exact (hn ⟨_, _, _, h1, h2⟩).elim
    | go h1' h2' h3' =>
      obtain ⟨rfl, rfl⟩ := h1.uniq h1'
      obtain rfl := h2.uniq h2'
      exact ih h3'
theorem Says.le {fl : Bool} {s u : St} {r q : ByteArray} (h : Says fl s r u q) : q.size ≤ r.size := by
  induction h with
  | stop => exact Nat.le_refl _
  | go h1 _ _ ih => have := h1.lt; omega
theorem Says.nil (fl : Bool) (s : St) : Says fl s ByteArray.empty s ByteArray.empty := Says.stop _ _ _ (by rintro ⟨b, more, t, h, _⟩; exact h.ne rfl)
/-- What stands behind what was said. -/
theorem Says.app {fl : Bool} {s t u : St} {r e r2 q : ByteArray} (h : Says fl s r t e) (he : e = ByteArray.empty) (h2 : ∀ fl', Says fl' t r2 u q) : Says fl s (r ++ r2) u q := by
  induction h with
  | stop fl s r hn => subst he; simpa using h2 fl
  | go g1 g2 _ ih => exact Says.go (g1.app r2) g2 (ih he h2)
/-- Changes that may be, one behind the other. -/
inductive May : St → List Ch → Prop
  | nil (s : St) : May s []
  | cons {s : St} {c : Ch} {L : List Ch} (hf : ChFit c) (h : (doP s c).2 = true) (hl : May (doP s c).1 L) : May s (c :: L)
theorem told_cons {s : St} {c : Ch} {L : List Ch} (h : (doP s c).2 = true) : told s (c :: L) = told (doP s c).1 L := by
  unfold told; rw [List.foldl_cons, tell, if_pos h]
theorem May.app {s : St} {L M : List Ch} (h : May s L) (h2 : May (told s L) M) : May s (L ++ M) := by
  induction h with
  | nil s => exact h2
  | cons hf h _ ih => exact May.cons hf h (ih (by rw [← told_cons h]; exact h2))
theorem frames_cons (c : Ch) (L : List Ch) : frames (c :: L) = frame (body c) ++ frames L := by
  have : ∀ (L : List Ch) (a : ByteArray), L.foldl (fun s c => s ++ frame (body c)) a = a ++ L.foldl (fun s c => s ++ frame (body c)) ByteArray.empty := by
    intro L
    induction L with
    | nil => intro a; simp
    | cons c L ih => intro a; rw [List.foldl_cons, ih, List.foldl_cons, ih (ByteArray.empty ++ frame (body c)), ByteArray.append_assoc]; simp
  unfold frames
  rw [List.foldl_cons, this]; simp
theorem frames_app (L M : List Ch) : frames (L ++ M) = frames L ++ frames M := by
  induction L with
  | nil => simp [frames]
  | cons c L ih => rw [List.cons_append, frames_cons, frames_cons, ih, ByteArray.append_assoc]
theorem body_lt {s : St} {c : Ch} (h : (doP s c).2 = true) (hf : ChFit c) : (body c).size < 65536 := by
  have := body_size c
  rcases hf with ⟨q, _⟩ | ⟨_, q, _⟩ | ⟨_, q, _⟩
  · unfold doP at h
    rw [if_pos q] at h
    split at h
    · rename_i hc; have := hc.1.lines.1; omega
    · cases h
  · rw [q] at this; simp at this; omega
  · rw [q] at this; simp at this; omega
/-- All of the changes' frames are right. -/
theorem May.says {s : St} {L : List Ch} (h : May s L) (fl : Bool) : Says fl s (frames L) (told s L) ByteArray.empty := by
  induction h generalizing fl with
  | nil s => exact Says.nil fl s
  | cons hf h _ ih =>
    rw [told_cons h, frames_cons]
    exact Says.go ⟨rfl, body_lt h hf⟩ (Or.inr ⟨_, ⟨hf, rfl⟩, h, rfl⟩) (ih false)
theorem split_at {a b : ByteArray} (c : Nat) : (c ≤ a.size → (a ++ b).extract 0 c = a.extract 0 c) ∧ (a.size ≤ c → (a ++ b).extract 0 c = a ++ b.extract 0 (c - a.size)) := by
  have la := ba_len a
  constructor
  · intro h
    refine ba_ext ?_
    rw [ByteArray.data_extract, ByteArray.data_append, ByteArray.data_extract]
    simp [h]
  · intro h
    refine ba_ext ?_
    rw [ByteArray.data_extract, ByteArray.data_append, ByteArray.data_append, ByteArray.data_extract]
    simp [List.take_of_length_le (show a.data.toList.length ≤ c by omega)]
/-- The frames of changes, cut anywhere: some of them are right, and nothing else. -/
theorem May.cut {s : St} {L : List Ch} (h : May s L) (c : Nat) (hc : c ≤ (frames L).size) :
    ∃ k q, k ≤ L.length ∧ (∀ fl, Says fl s ((frames L).extract 0 c) (told s (L.take k)) q) ∧ (frames (L.take k)).size + q.size = c ∧ (c = (frames L).size → k = L.length) ∧ (c < (frames L).size → k < L.length) := by
  induction h generalizing c with
  | nil s =>
    refine ⟨0, ByteArray.empty, Nat.le_refl _, ?_, ?_, fun _ => rfl, fun h => ?_⟩
    · intro fl
      have : ((frames []).extract 0 c) = ByteArray.empty := by
        have : c = 0 := by simpa [frames] using hc
        subst this; rfl
      rw [this]; exact Says.nil fl s
    · have : c = 0 := by simpa [frames] using hc
      subst this; rfl
    · simp [frames] at h
  | @cons s c0 L hf h hl ih =>
    rw [frames_cons] at hc ⊢
    rw [ByteArray.size_append] at hc ⊢
    by_cases hlt : c < (frame (body c0)).size
    · refine ⟨0, (frame (body c0)).extract 0 c, Nat.zero_le _, ?_, ?_, fun e => ?_, fun _ => by simp⟩
      · intro fl
        rw [(split_at c).1 (by omega)]
        refine Says.stop _ _ _ ?_
        rintro ⟨b, more, t, hN, _⟩
        refine no_cut (body_lt h hf) (ext_split (frame (body c0)) c).symm ?_ ⟨b, more, hN⟩
        intro e
        have := congrArg ByteArray.size e
        simp at this; omega
      · simp [frames]; omega
      · omega
    · obtain ⟨k, q, h1, h2, h3, h4, h5⟩ := ih (c - (frame (body c0)).size) (by omega)
      refine ⟨k + 1, q, by simp; omega, ?_, ?_, fun e => ?_, fun e => ?_⟩
      · intro fl
        rw [(split_at c).2 (by omega), List.take_succ_cons, told_cons h]
        exact Says.go ⟨rfl, body_lt h hf⟩ (Or.inr ⟨_, ⟨hf, rfl⟩, h, rfl⟩) (h2 false)
      · rw [List.take_succ_cons, frames_cons, ByteArray.size_append]; omega
      · rw [h4 (by omega)]; simp
      · have := h5 (by omega); simp; omega
/-- All of a log is right, and says a state. -/
def Right (log : ByteArray) (s : St) : Prop := Says true first log s ByteArray.empty
theorem Right.nil : Right ByteArray.empty first := Says.nil _ _
theorem Right.add {log : ByteArray} {s : St} {L : List Ch} (h : Right log s) (hl : May s L) : Right (log ++ frames L) (told s L) := Says.app h rfl fun fl => hl.says fl
theorem Right.cut {log : ByteArray} {s : St} {L : List Ch} (h : Right log s) (hl : May s L) (c : Nat) (h1 : log.size ≤ c) (h2 : c ≤ (log ++ frames L).size) :
    ∃ k q, k ≤ L.length ∧ Says true first ((log ++ frames L).extract 0 c) (told s (L.take k)) q ∧ log.size + (frames (L.take k)).size + q.size = c ∧ (c = (log ++ frames L).size → k = L.length) ∧ (c < (log ++ frames L).size → k < L.length) := by
  rw [ByteArray.size_append] at h2 ⊢
  obtain ⟨k, q, g1, g2, g3, g4, g5⟩ := hl.cut (c - log.size) (by omega)
  refine ⟨k, q, g1, ?_, by omega, fun e => g4 (by omega), fun e => g5 (by omega)⟩
  rw [(split_at c).2 h1]
  exact Says.app h rfl g2
theorem cat_size {α : Type} (f : α → ByteArray) (n : Nat) (l : List α) (h : ∀ x ∈ l, (f x).size = n) : (cat (l.map f)).size = n * l.length := by
  induction l with
  | nil => simp [cat]
  | cons x l ih =>
    rw [List.map_cons, cat, ByteArray.size_append, h x (by simp), ih (fun y hy => h y (by simp [hy])), List.length_cons, Nat.mul_succ]; omega
theorem encSl_size (x : Sl) : (encSl x).size = 15 := by
  unfold encSl; simp only [ByteArray.size_append, be_size]
theorem wholeS_size {s : St} (h : MayS s) : (wholeS s).size ≤ 450 := by
  have h300 := h.tab.lines.1
  have h1 := cat_size encSl 15 s.slots (fun x _ => encSl_size x)
  have h2 := cat_size encEn 3 s.ends (fun x hx => by unfold encEn; rw [ByteArray.size_append, be_size, how_size (h.ee x hx).h])
  have hsl := h.sl
  have hen := h.en
  unfold wholeS encSt
  simp only [ByteArray.size_append, be_size, b1_size, h1, h2]
  omega
theorem Right.whole {s : St} (h : MayS s) : Right (frame (wholeS s)) s :=
  Says.go (more := ByteArray.empty) ⟨by simp, by have := wholeS_size h; omega⟩ (Or.inl ⟨rfl, h, rfl⟩) (Says.nil _ _)
end Bx
end Go.Proofs.YtdajolpoiffimabDoor

namespace Go.Proofs.YtdajolpoiffimabDoor
namespace Bx
theorem MayS.dist {s : St} (h : MayS s) {i j : Nat} (hi : i < s.slots.length) (hj : j < s.slots.length) (e : s.slots[i].num = s.slots[j].num) : i = j := by
  rcases Nat.lt_trichotomy i j with q | q | q
  · have := List.pairwise_iff_getElem.1 h.rise i j hi hj q; omega
  · exact q
  · have := List.pairwise_iff_getElem.1 h.rise j i hj hi q; omega
/-- The number that is found. -/
theorem findK_num (l : List Sl) (n : Int) (k : Nat) (hk : k ≤ l.length) (h : ¬ findK l n k < 0) : ∃ hi : (findK l n k).toNat < l.length, (l[(findK l n k).toNat]).num = n := by
  induction k with
  | zero => exact absurd (show findK l n 0 < 0 by simp [findK]) h
  | succ k ih =>
    unfold findK at h ⊢
    split
    · rename_i hc
      refine ⟨by simp; omega, ?_⟩
      have hkl : k < l.length := by omega
      rw [List.getElem?_eq_getElem hkl] at hc
      simpa using hc
    · rename_i hc
      rw [if_neg hc] at h
      exact ih (by omega) h
theorem find_num {s : St} {n : Int} (h : ¬ find s n < 0) : ∃ hi : (find s n).toNat < s.slots.length, (s.slots[(find s n).toNat]).num = n := findK_num _ _ _ (Nat.le_refl _) h
theorem find_nat {s : St} {n : Int} (h : ¬ find s n < 0) : find s n = ((find s n).toNat : Int) := by omega
theorem slAt_eq {s : St} {i : Nat} (h : i < s.slots.length) : slAt s i = s.slots[i] := by simp [slAt, h]
theorem putK_set (l : List Sl) (i : Nat) (x : Sl) (k : Nat) (hk : k ≤ l.length) : putK l i x k = (l.set i x).take k := by
  induction k with
  | zero => simp [putK]
  | succ k ih =>
    have hkl : k < l.length := by omega
    have hks : k < (l.set i x).length := by simpa using hkl
    rw [putK, ih (by omega), List.take_succ_eq_append_getElem hks, List.getElem_set]
    by_cases e : i = k
    · subst e; simp
    · rw [if_neg (by omega), if_neg e, List.getElem?_eq_getElem hkl]; rfl
theorem put_set (l : List Sl) (i : Nat) (x : Sl) : putL l i x = l.set i x := by
  unfold putL; rw [putK_set l i x _ (Nat.le_refl _), List.take_of_length_le (by simp)]
/-- What was among the slots is none of the ends. -/
theorem push_mem {l : List En} {e x : En} (h : x ∈ push l e) : x ∈ l ∨ x = e := by
  unfold push at h
  rcases List.mem_append.1 h with h | h
  · exact Or.inl (List.mem_of_mem_drop h)
  · exact Or.inr (by simpa using h)
theorem push_dif {l : List En} {e : En} (h : l.Pairwise fun a b => a.num ≠ b.num) (hn : ∀ x ∈ l, x.num ≠ e.num) : (push l e).Pairwise fun a b => a.num ≠ b.num := by
  unfold push
  rw [List.pairwise_append]
  refine ⟨h.sublist (List.drop_sublist _ _), by simp, fun a ha b hb => ?_⟩
  simp at hb; subst hb
  exact hn a (List.mem_of_mem_drop ha)
theorem MaySl.sub {s t : St} {x : Sl} (h : MaySl s x) (h1 : t.next = s.next) (h2 : t.tab = s.tab) (h3 : t.clock = s.clock) : MaySl t x := by
  obtain ⟨a1, a2, a3, a4, a5, a6, a7, a8⟩ := h
  refine ⟨by rw [h1]; exact a1, by rw [h2]; exact a2, a3, by rw [h3]; exact a4, ?_, a6, by rw [h3]; exact a7, by rw [h3]; exact a8⟩
  unfold opt at a5 ⊢; rw [h2]; exact a5
/-- A slot ends. -/
theorem MayS.gone {s : St} (h : MayS s) {i : Nat} (hi : i < s.slots.length) {how : ByteArray} (hh : how = hD ∨ how = hA ∨ how = hK ∨ how = hS) : MayS (with' s (withoutL s.slots i) s.slots[i].num how) := by
  have hx := h.es _ (List.getElem_mem hi)
  have hpos : 0 < s.slots[i].num := by have := hx.n; omega
  have he : (with' s (withoutL s.slots i) s.slots[i].num how) = { s with slots := s.slots.eraseIdx i, ends := push s.ends ⟨s.slots[i].num, how⟩ } := by
    unfold with'; rw [if_pos hpos, Px.without_erase]
  rw [he]
  have hsub : (s.slots.eraseIdx i).Sublist s.slots := List.eraseIdx_sublist _ _
  have hnot : ∀ y ∈ s.slots.eraseIdx i, y.num ≠ s.slots[i].num := by
    intro y hy e
    obtain ⟨j, hj, hji, hjn⟩ := List.mem_eraseIdx_iff_getElem.1 hy
    exact hji (h.dist hj hi (by rw [hjn]; exact e))
  refine ⟨h.tab, h.c1, h.c2, h.n1, h.n2, Nat.le_trans (hsub.length_le) h.sl, push_len _, h.rise.sublist hsub, h.lock.sublist hsub, ?_, fun x hx => (h.es x (hsub.subset hx)).sub rfl rfl rfl, ?_⟩
  · refine push_dif h.dif fun x hx e => ?_
    exact (h.ee x hx).o _ (List.getElem_mem hi) e.symm
  · intro x hx'
    rcases push_mem hx' with q | q
    · have := h.ee x q
      exact ⟨this.n, this.h, fun y hy => this.o y (hsub.subset hy)⟩
    · subst q
      exact ⟨hx.n, hh, fun y hy => hnot y hy⟩
/-- A slot is another. -/
theorem MayS.put {s : St} (h : MayS s) {i : Nat} (hi : i < s.slots.length) {y : Sl} (hn : y.num = s.slots[i].num) (_hl : y.line = s.slots[i].line) (hy : MaySl s y)
    (hr : y.runs = true → ∀ k (hk : k < s.slots.length), k ≠ i → s.slots[k].line = y.line → opt s y.line 0 = 120 → s.slots[k].runs = true → False) : MayS (with' s (putL s.slots i y) 0 ByteArray.empty) := by
  have he : with' s (putL s.slots i y) 0 ByteArray.empty = { s with slots := s.slots.set i y } := by
    unfold with'; rw [if_neg (by decide), put_set]
  rw [he]
  have hg : ∀ k (hk : k < (s.slots.set i y).length), (s.slots.set i y)[k].num = (s.slots[k]'(by simpa using hk)).num := by
    intro k hk
    rw [List.getElem_set]
    by_cases e : i = k
    · subst e; rw [if_pos rfl]; exact hn
    · rw [if_neg e]
  refine ⟨h.tab, h.c1, h.c2, h.n1, h.n2, by simpa using h.sl, h.en, ?_, ?_, h.dif, ?_, ?_⟩
  · rw [List.pairwise_iff_getElem]
    intro a b ha hb hab
    rw [hg, hg]
    exact List.pairwise_iff_getElem.1 h.rise a b _ _ hab
  · rw [List.pairwise_iff_getElem]
    intro a b ha hb hab
    have ha' : a < s.slots.length := by simpa using ha
    have hb' : b < s.slots.length := by simpa using hb
    rw [List.getElem_set, List.getElem_set]
    by_cases ea : i = a
    · subst ea
      rw [if_pos rfl, if_neg (by omega)]
      intro h1 h2 h3 h4
      exact hr h3 b hb' (by omega) h1.symm h2 h4
    · rw [if_neg ea]
      by_cases eb : i = b
      · subst eb
        rw [if_pos rfl]
        intro h1 h2 h3 h4
        exact hr h4 a ha' (by omega) h1 (by rw [← h1]; exact h2) h3
      · rw [if_neg eb]
        exact List.pairwise_iff_getElem.1 h.lock a b ha' hb' hab
  · intro x hx
    rcases List.mem_or_eq_of_mem_set hx with q | q
    · exact (h.es x q).sub rfl rfl rfl
    · rw [q]; exact hy.sub rfl rfl rfl
  · intro x hx
    have q := h.ee x hx
    refine ⟨q.n, q.h, fun z hz => ?_⟩
    rcases List.mem_or_eq_of_mem_set hz with p | p
    · exact q.o z p
    · rw [p, hn]; exact q.o _ (List.getElem_mem hi)
theorem lockK_no {s : St} {i k : Nat} (h : lockK s i k = false) : ∀ j, j < k → j ≠ i → (slAt s j).line = (slAt s i).line → (slAt s j).runs = true → False := by
  induction k with
  | zero => intro j hj; omega
  | succ k ih =>
    intro j hj hne hl hr
    rw [lockK] at h
    simp only [Bool.or_eq_false_iff] at h
    by_cases e : j = k
    · subst e
      have := h.2
      simp [hne, hl, hr] at this
    · exact ih h.1 j (by omega) hne hl hr
theorem MayS.failed {s : St} (h : MayS s) {i : Nat} (hi : i < s.slots.length) : MayS (failed s i) := by
  have hx := h.es _ (List.getElem_mem hi)
  unfold Bx.failed
  rw [slAt_eq hi]
  split
  · exact h.gone hi (Or.inr (Or.inl rfl))
  · rename_i hne
    have hd := Px.delay_bd s.slots[i].att
    have ha := hx.a
    have hm := hx.m
    refine h.put hi rfl rfl ⟨hx.n, hx.l, hx.m0, hx.m, ?_, ?_, ?_, ?_⟩ ?_
    · show 1 ≤ s.slots[i].att + 1 ∧ s.slots[i].att + 1 ≤ opt s s.slots[i].line 2 - 48
      omega
    · intro e; have : s.slots[i].att + 1 = 1 := e; omega
    · intro _
      show s.slots[i].minute < s.clock + delay s.slots[i].att ∧ s.clock + delay s.slots[i].att ≤ s.clock + 10
      omega
    · intro e; cases e
    · intro e; cases e
theorem MayS.about {s : St} (h : MayS s) (kind n : Int) : MayS (aboutP s kind n).1 := by
  unfold aboutP
  split
  · exact h
  · rename_i hn
    obtain ⟨hi, hnum⟩ := find_num hn
    have hf := find_nat hn
    generalize (find s n).toNat = i at *
    rw [hf]
    have hx := h.es _ (List.getElem_mem hi)
    split
    · have := h.gone hi (how := hK) (Or.inr (Or.inr (Or.inl rfl))); rw [hnum] at this; exact this
    · split
      · split
        · exact h
        · rename_i hc
          rw [slAt_eq hi] at hc ⊢
          have hc1 : ¬ s.slots[i].runs = true := fun e => hc (Or.inl e)
          have hc2 : ¬ s.clock < s.slots[i].frm := fun e => hc (Or.inr (Or.inl e))
          have hc3 : ¬ locked s i = true := fun e => hc (Or.inr (Or.inr e))
          refine h.put hi rfl rfl ⟨hx.n, hx.l, hx.m0, hx.m, hx.a, hx.f1, hx.f2, fun _ => by show s.slots[i].frm ≤ s.clock; omega⟩ ?_
          intro _ k hk hki hl ho hr
          have hlk : locked s i = false := by simpa using hc3
          unfold locked at hlk
          rw [slAt_eq hi] at hlk
          have ho' : (opt s s.slots[i].line 0 == 120) = true := by simpa using ho
          rw [ho', Bool.true_and] at hlk
          exact lockK_no hlk k hk hki (by rw [slAt_eq hk, slAt_eq hi]; exact hl) (by rw [slAt_eq hk]; exact hr)
      · split
        · have := h.gone hi (how := hD) (Or.inl rfl); rw [hnum] at this; exact this
        · split
          · exact h.failed hi
          · exact h
/-- The clock goes on. -/
theorem MayS.later {s : St} (h : MayS s) {m : Int} (h1 : s.clock ≤ m) (h2 : m ≤ 4223371679) : MayS { s with clock := m } := by
  refine ⟨h.tab, by have := h.c1; show -1 ≤ m; omega, h2, h.n1, h.n2, h.sl, h.en, h.rise, h.lock, h.dif, fun x hx => ?_, fun x hx => ⟨(h.ee x hx).n, (h.ee x hx).h, (h.ee x hx).o⟩⟩
  have q := h.es x hx
  have q1 := q.m
  refine ⟨q.n, q.l, q.m0, by show x.minute ≤ m; omega, q.a, q.f1, fun e => ?_, fun e => ?_⟩
  · have := q.f2 e; exact ⟨this.1, by show x.frm ≤ m + 10; omega⟩
  · have := q.r e; show x.frm ≤ m; omega
theorem MayS.arr {s : St} (h : MayS s) (p : Nat × Int) (hp : p.1 < tn s.tab) (h0 : 0 ≤ p.2) (h1 : p.2 ≤ s.clock) (hn : s.next + 1 ≤ 10000) : MayS (arr s p) := by
  have hnx := h.n1
  have hsl' : ∀ x ∈ s.slots, MaySl { s with next := s.next + 1 } x := fun x hx => by
    have q := h.es x hx
    have q1 := q.n
    exact ⟨⟨q1.1, by show x.num < s.next + 1; omega⟩, q.l, q.m0, q.m, q.a, q.f1, q.f2, q.r⟩
  unfold Bx.arr
  split
  · have o := (opt_of (h.tab.lines.2.2 p.1 hp)).2.2.2.1
    refine ⟨h.tab, h.c1, h.c2, by show 1 ≤ s.next + 1; omega, hn, by simp; omega, h.en, ?_, ?_, h.dif, ?_, ?_⟩
    · rw [List.pairwise_append]
      refine ⟨h.rise, by simp, fun a ha b hb => ?_⟩
      simp at hb; subst hb
      exact (h.es a ha).n.2
    · rw [List.pairwise_append]
      refine ⟨h.lock, by simp, fun a ha b hb => ?_⟩
      simp at hb; subst hb
      intro _ _ _ q; cases q
    · intro x hx
      rcases List.mem_append.1 hx with hx | hx
      · exact (hsl' x hx).sub rfl rfl rfl
      · simp at hx; subst hx
        refine ⟨⟨hnx, by show s.next < s.next + 1; omega⟩, ⟨by simp [slotOf]; omega, by simp [slotOf]; omega⟩, h0, h1, ⟨by simp [slotOf], ?_⟩, fun _ => rfl, fun e => (e rfl).elim, fun e => by cases e⟩
        show (1 : Int) ≤ ob (tl s.tab (((p.1 : Int) + 1) - 1).toNat) 2 - 48
        rw [show (((p.1 : Int) + 1) - 1).toNat = p.1 by omega]; omega
    · intro x hx
      have q := h.ee x hx
      have q1 := q.n
      refine ⟨⟨q1.1, by show x.num < s.next + 1; omega⟩, q.h, fun y hy => ?_⟩
      rcases List.mem_append.1 hy with hy | hy
      · exact q.o y hy
      · simp at hy; subst hy; show s.next ≠ x.num; omega
  · refine ⟨h.tab, h.c1, h.c2, by show 1 ≤ s.next + 1; omega, hn, h.sl, push_len _, h.rise, h.lock, ?_, fun x hx => (hsl' x hx).sub rfl rfl rfl, ?_⟩
    · exact push_dif h.dif fun x hx e => by have := (h.ee x hx).n; have e' : x.num = s.next := e; omega
    · intro x hx
      rcases push_mem hx with q | q
      · have q' := h.ee x q
        have q1 := q'.n
        exact ⟨⟨q1.1, by show x.num < s.next + 1; omega⟩, q'.h, q'.o⟩
      · subst q
        exact ⟨⟨hnx, by show s.next < s.next + 1; omega⟩, Or.inr (Or.inr (Or.inr rfl)), fun y hy => by have := (h.es y hy).n; show y.num ≠ s.next; omega⟩
theorem arr_next (s : St) (p : Nat × Int) : (arr s p).next = s.next + 1 ∧ (arr s p).tab = s.tab ∧ (arr s p).clock = s.clock := by
  unfold arr; split <;> exact ⟨rfl, rfl, rfl⟩
theorem arr_clock (s : St) (p : Nat × Int) (m : Int) : arr { s with clock := m } p = { arr s p with clock := m } := by
  unfold arr
  by_cases h : s.slots.length < 8
  · rw [if_pos h, if_pos h]
  · rw [if_neg h, if_neg h]
theorem arrs_clock (l : List (Nat × Int)) (s : St) (m : Int) : l.foldl arr { s with clock := m } = { l.foldl arr s with clock := m } := by
  induction l generalizing s with
  | nil => rfl
  | cons p l ih => rw [List.foldl_cons, List.foldl_cons, arr_clock, ih]
theorem MayS.arrs (l : List (Nat × Int)) {s : St} (h : MayS s) (hp : ∀ p ∈ l, p.1 < tn s.tab ∧ 0 ≤ p.2 ∧ p.2 ≤ s.clock) (hn : s.next + (l.length : Int) ≤ 10000) : MayS (l.foldl Bx.arr s) := by
  induction l generalizing s with
  | nil => exact h
  | cons p l ih =>
    simp only [List.length_cons] at hn
    obtain ⟨q1, q2, q3⟩ := hp p (by simp)
    obtain ⟨e1, e2, e3⟩ := arr_next s p
    rw [List.foldl_cons]
    exact ih (h.arr p q1 q2 q3 (by omega)) (fun x hx => by rw [e2, e3]; exact hp x (by simp [hx])) (by rw [e1]; omega)
theorem MayS.clocked {s : St} (h : MayS s) (m : Int) : MayS (clockedP s m).1 := by
  unfold clockedP
  split
  · rename_i ha
    split
    · rename_i hn
      have hA : 0 ≤ m ∧ m ≤ 4223371679 ∧ s.clock < m ∧ (s.clock = -1 ∨ m - s.clock ≤ 1500) := of_decide_eq_true ha
      show MayS { (comesS s m).foldl Bx.arr s with clock := m }
      rw [← arrs_clock]
      refine MayS.arrs _ (h.later (by omega) hA.2.1) (fun p hp => ?_) hn
      have hl := comes_line hp
      obtain ⟨_, hc1, hc2, _⟩ := ((comes_ok (lns s.tab) (newA s m) m).mem p.1 p.2).1 hp
      have h0 : 0 ≤ newA s m := by have := h.c1; unfold newA; split <;> omega
      exact ⟨hl, by omega, hc2⟩
    · exact h
  · exact h
theorem MayS.do {s : St} (h : MayS s) (c : Ch) : MayS (doP s c).1 := by
  unfold doP
  split
  · split
    · rename_i hc
      have h0 : s.slots = [] := List.eq_nil_of_length_eq_zero hc.2
      refine ⟨hc.1, h.c1, h.c2, h.n1, h.n2, h.sl, h.en, h.rise, ?_, h.dif, ?_, fun x hx => ⟨(h.ee x hx).n, (h.ee x hx).h, (h.ee x hx).o⟩⟩
      · show s.slots.Pairwise _; rw [h0]; exact List.Pairwise.nil
      · show ∀ x ∈ s.slots, _; rw [h0]; simp
    · exact h
  · split
    · exact h.clocked _
    · exact h.about _ _
theorem MayS.told {s : St} (h : MayS s) (l : List Ch) : MayS (told s l) := by
  induction l generalizing s with
  | nil => exact h
  | cons a r ih =>
    refine ih ?_
    unfold tell; split
    · exact h.do a
    · exact h
end Bx
end Go.Proofs.YtdajolpoiffimabDoor

namespace Go.Proofs.YtdajolpoiffimabDoor
namespace Bx
theorem b1_inj {k k' : Int} {r r' : ByteArray} (h : b1 k ++ r = b1 k' ++ r') (h1 : 0 ≤ k ∧ k < 256) (h2 : 0 ≤ k' ∧ k' < 256) : k = k' ∧ r = r' := by
  obtain ⟨e1, e2⟩ := app_inj h rfl
  rw [b1_be, b1_be] at e1
  exact ⟨be_inj e1 h1.1 (by simpa using h1.2) h2.1 (by simpa using h2.2), e2⟩
theorem body_T (r : ByteArray) : IsCh (b1 84 ++ r) ⟨84, r, 0⟩ := ⟨Or.inl ⟨rfl, rfl⟩, by unfold body; rw [if_pos rfl]⟩
theorem numP_all {k : Nat} {r : ByteArray} {n : Int} {q : PS} (h : numP k ⟨r, false⟩ = (n, q)) (hw : q.wrong = false) (hr : q.rest = ByteArray.empty) : r = be n k ∧ 0 ≤ n ∧ n < 256 ^ k := by
  obtain ⟨_, e, a, b⟩ := Px.numP_r h hw
  rw [hr] at e
  exact ⟨by simpa using e, a, b⟩
theorem body_C_yes {r : ByteArray} {n : Int} {q : PS} (h : numP 5 ⟨r, false⟩ = (n, q)) (hw : q.wrong = false) (hr : q.rest = ByteArray.empty) : IsCh (b1 67 ++ r) ⟨67, ByteArray.empty, n⟩ := by
  obtain ⟨e, a, b⟩ := numP_all h hw hr
  refine ⟨Or.inr (Or.inl ⟨rfl, rfl, a, by simpa using b⟩), ?_⟩
  unfold body; rw [if_neg (show ¬ (67 : Int) = 84 by decide), if_pos rfl, e]
theorem body_N_yes {k : Int} {r : ByteArray} {n : Int} {q : PS} (hk : k = 83 ∨ k = 68 ∨ k = 70 ∨ k = 75) (h : numP 2 ⟨r, false⟩ = (n, q)) (hw : q.wrong = false) (hr : q.rest = ByteArray.empty) : IsCh (b1 k ++ r) ⟨k, ByteArray.empty, n⟩ := by
  obtain ⟨e, a, b⟩ := numP_all h hw hr
  refine ⟨Or.inr (Or.inr ⟨hk, rfl, a, by simpa using b⟩), ?_⟩
  unfold body; rw [if_neg (by simp; omega), if_neg (by simp; omega), e]
theorem isCh_split {k : Int} {r : ByteArray} {c : Ch} (h : IsCh (b1 k ++ r) c) (hk : 0 ≤ k ∧ k < 256) : c.kind = k ∧ r = (if c.kind = 84 then c.tab else if c.kind = 67 then be c.n 5 else be c.n 2) := by
  obtain ⟨f, e⟩ := h
  unfold body at e
  have q := f.kind
  obtain ⟨e1, e2⟩ := b1_inj e ⟨q.1, q.2.1⟩ hk
  exact ⟨e1, e2.symm⟩
theorem body_C_no {r : ByteArray} {n : Int} {q : PS} (h : numP 5 ⟨r, false⟩ = (n, q)) (hq : ¬ (q.wrong = false ∧ q.rest = ByteArray.empty)) : ¬ ∃ c, IsCh (b1 67 ++ r) c := by
  rintro ⟨c, hc⟩
  obtain ⟨e1, e2⟩ := isCh_split hc (by decide)
  rw [if_neg (by omega), if_pos e1] at e2
  have hn : 0 ≤ c.n ∧ c.n < 1099511627776 := by rcases hc.1 with ⟨q, _⟩ | ⟨_, _, q⟩ | ⟨q, _⟩ <;> omega
  have := numP_be c.n 5 ByteArray.empty false hn.1 (by simpa using hn.2)
  rw [e2] at h
  simp only [ByteArray.append_empty] at this
  rw [this] at h
  obtain ⟨_, rfl⟩ := Prod.mk.inj h
  exact hq ⟨rfl, rfl⟩
theorem body_N_no {k : Int} {r : ByteArray} {n : Int} {q : PS} (hk : k = 83 ∨ k = 68 ∨ k = 70 ∨ k = 75) (h : numP 2 ⟨r, false⟩ = (n, q)) (hq : ¬ (q.wrong = false ∧ q.rest = ByteArray.empty)) : ¬ ∃ c, IsCh (b1 k ++ r) c := by
  rintro ⟨c, hc⟩
  obtain ⟨e1, e2⟩ := isCh_split hc (by omega)
  rw [if_neg (by omega), if_neg (by omega)] at e2
  have hn : 0 ≤ c.n ∧ c.n < 65536 := by rcases hc.1 with ⟨q, _⟩ | ⟨q, _⟩ | ⟨_, _, q⟩ <;> omega
  have := numP_be c.n 2 ByteArray.empty false hn.1 (by simpa using hn.2)
  rw [e2] at h
  simp only [ByteArray.append_empty] at this
  rw [this] at h
  obtain ⟨_, rfl⟩ := Prod.mk.inj h
  exact hq ⟨rfl, rfl⟩
theorem body_no {k : Int} {r : ByteArray} (hk : 0 ≤ k ∧ k < 256) (h : ¬ k = 84 ∧ ¬ k = 67 ∧ ¬ k = 83 ∧ ¬ k = 68 ∧ ¬ k = 70 ∧ ¬ k = 75) : ¬ ∃ c, IsCh (b1 k ++ r) c := by
  rintro ⟨c, hc⟩
  obtain ⟨e1, _⟩ := isCh_split hc hk
  rcases hc.1 with ⟨q, _⟩ | ⟨q, _⟩ | ⟨q, _⟩ <;> omega
theorem whole_no {k : Int} {r : ByteArray} (hk : 0 ≤ k ∧ k < 256) (h : ¬ k = 90) : ¬ ∃ s, wholeS s = b1 k ++ r := by
  rintro ⟨s, e⟩
  exact h (b1_inj e (by decide) hk).1.symm
theorem whole_yes {r : ByteArray} {s : Px.St} {q : PS} (h : Px.rdState ⟨r, false⟩ = (s, q)) (hw : q.wrong = false) (hr : q.rest = ByteArray.empty) : wholeS (Px.abs s) = b1 90 ++ r ∧ StFit (Px.abs s) := by
  obtain ⟨_, e, f⟩ := Px.rdState_right h hw
  rw [hr] at e
  exact ⟨by unfold wholeS; rw [show r = encSt (Px.abs s) from by simpa using e], f⟩
theorem whole_fit_no {r : ByteArray} {s : Px.St} {q : PS} (h : Px.rdState ⟨r, false⟩ = (s, q)) (hq : ¬ (q.wrong = false ∧ q.rest = ByteArray.empty)) : ¬ ∃ t, StFit t ∧ wholeS t = b1 90 ++ r := by
  rintro ⟨t, ft, e⟩
  obtain ⟨_, e2⟩ := b1_inj e (by decide) (by decide)
  have := Px.rdState_enc t ft ByteArray.empty
  simp only [ByteArray.append_empty] at this
  rw [e2, h] at this
  obtain ⟨_, rfl⟩ := Prod.mk.inj this
  exact hq ⟨rfl, rfl⟩
theorem whole_uniq {r : ByteArray} {s : Px.St} {t : St} {q : PS} (h : Px.rdState ⟨r, false⟩ = (s, q)) (ht : StFit t) (e : wholeS t = b1 90 ++ r) : Px.abs s = t := by
  obtain ⟨_, e2⟩ := b1_inj e (by decide) (by decide)
  have := Px.rdState_enc t ht ByteArray.empty
  simp only [ByteArray.append_empty] at this
  rw [e2, h] at this
  obtain ⟨rfl, _⟩ := Prod.mk.inj this
  exact Px.rdSt_abs t
theorem empty_no : (¬ ∃ c, IsCh ByteArray.empty c) ∧ ¬ ∃ s, wholeS s = ByteArray.empty := by
  constructor
  · rintro ⟨c, _, e⟩
    have := congrArg ByteArray.size e
    unfold body at this
    rw [ByteArray.size_append, b1_size] at this
    simp at this
  · rintro ⟨s, e⟩
    have := congrArg ByteArray.size e
    unfold wholeS at this
    rw [ByteArray.size_append, b1_size] at this
    simp at this
/-- One of each: as a count, and as a list of different ones. -/
theorem one_of {α : Type} (p : α → α → Bool) (hr : ∀ x, p x x = true) (l : List α) (c : α → Prop) (hc : ∀ x y, p x y = true → c x → c y ∧ p y x = true) :
    (∀ x ∈ l, c x → (l.filter (p x)).length = 1) ↔ l.Pairwise fun a b => c a → p a b = true → False := by
  induction l with
  | nil => simp
  | cons a l ih =>
    rw [List.pairwise_cons, ← ih]
    constructor
    · intro h
      refine ⟨fun b hb ca pab => ?_, fun x hx cx => ?_⟩
      · have h1 := h a (by simp) ca
        rw [List.filter_cons_of_pos (hr a), List.length_cons] at h1
        have : b ∈ l.filter (p a) := List.mem_filter.2 ⟨hb, pab⟩
        have := List.length_pos_of_mem this
        omega
      · have h1 := h x (by simp [hx]) cx
        have h2 : x ∈ l.filter (p x) := List.mem_filter.2 ⟨hx, hr x⟩
        have h3 := List.length_pos_of_mem h2
        by_cases hp : p x a = true
        · rw [List.filter_cons_of_pos hp, List.length_cons] at h1; omega
        · rw [List.filter_cons_of_neg hp] at h1; exact h1
    · rintro ⟨h1, h2⟩ x hx cx
      rcases List.mem_cons.1 hx with rfl | hx
      · rw [List.filter_cons_of_pos (hr x), List.length_cons]
        have : l.filter (p x) = [] := List.filter_eq_nil_iff.2 fun b hb e => h1 b hb cx e
        rw [this]; rfl
      · have hp : ¬ p x a = true := fun e => by
          obtain ⟨ca, e'⟩ := hc x a e cx
          exact h1 x hx ca e'
        rw [List.filter_cons_of_neg hp]; exact h2 x hx cx
end Bx
namespace Px
open Bx (PS numP)
/-- What is read has said nothing yet. -/
def Fresh (x : Sl) : Prop := (x.step = 0 ∨ x.step = 1) ∧ x.ans = 0 ∧ x.heard = ByteArray.empty ∧ 0 ≤ x.minute
theorem rdSlot_fresh (p : PS) : Fresh (rdSlot p).1 := by
  obtain ⟨a, pa, ha⟩ : ∃ a q, numP 2 p = (a, q) := ⟨_, _, pr_eta _⟩
  obtain ⟨b, pb, hb⟩ : ∃ a q, numP 1 pa = (a, q) := ⟨_, _, pr_eta _⟩
  obtain ⟨c, pc, hc⟩ : ∃ a q, numP 5 pb = (a, q) := ⟨_, _, pr_eta _⟩
  obtain ⟨d, pd, hd⟩ : ∃ a q, numP 1 pc = (a, q) := ⟨_, _, pr_eta _⟩
  obtain ⟨e, pe, he⟩ : ∃ a q, numP 5 pd = (a, q) := ⟨_, _, pr_eta _⟩
  obtain ⟨f, pf, hf⟩ : ∃ a q, numP 1 pe = (a, q) := ⟨_, _, pr_eta _⟩
  rw [rdSlot_eq ha hb hc hd he hf]
  have hm := Bx.numP_bd 5 pb
  rw [hc] at hm
  refine ⟨?_, rfl, rfl, hm⟩
  show (if f = 1 then (1 : Int) else 0) = 0 ∨ (if f = 1 then (1 : Int) else 0) = 1
  split
  · exact Or.inr rfl
  · exact Or.inl rfl
theorem rdSlots_fresh (p : PS) : ∀ x ∈ (rdSlots p).1, Fresh x := by
  have : ∀ k p, ∀ x ∈ (rdSlotsK k p).1, Fresh x := by
    intro k
    induction k with
    | zero => intro p x hx; simp [rdSlotsK] at hx
    | succ k ih =>
      intro p x hx
      rw [rdSlotsK] at hx
      split at hx
      · simp at hx
      · rcases List.mem_cons.1 hx with e | e
        · rw [e]; exact rdSlot_fresh p
        · exact ih _ x e
  exact this _ _
theorem rdState_fresh (p : PS) : (∀ x ∈ (rdState p).1.slots, Fresh x) ∧ -1 ≤ (rdState p).1.clock := by
  obtain ⟨c, pc, hc⟩ : ∃ a q, numP 5 p = (a, q) := ⟨_, _, pr_eta _⟩
  obtain ⟨n, pn, hn⟩ : ∃ a q, numP 2 pc = (a, q) := ⟨_, _, pr_eta _⟩
  obtain ⟨l, pl, hl⟩ : ∃ a q, numP 2 pn = (a, q) := ⟨_, _, pr_eta _⟩
  obtain ⟨t, pt, ht⟩ : ∃ a q, Bx.txtP l pl = (a, q) := ⟨_, _, pr_eta _⟩
  obtain ⟨sl, ps, hs⟩ : ∃ a q, rdSlots pt = (a, q) := ⟨_, _, pr_eta _⟩
  obtain ⟨en, pe, he⟩ : ∃ a q, rdEnds ps = (a, q) := ⟨_, _, pr_eta _⟩
  rw [rdState_eq hc hn hl ht hs he]
  have h1 := rdSlots_fresh pt
  rw [hs] at h1
  have h2 := Bx.numP_bd 5 p
  rw [hc] at h2
  exact ⟨h1, by show -1 ≤ c - 1; simp only at h2; omega⟩
end Px
end Go.Proofs.YtdajolpoiffimabDoor

namespace Go.Proofs.YtdajolpoiffimabDoor
namespace Px

theorem start_abs {s : St} (hd : Dist s.slots) (n : Int) :
    ((startP s n).2 = 8 ∧ Bx.find (abs s) n < 0) ∨
    (∃ i : Nat, ∃ hi : i < s.slots.length, Bx.find (abs s) n = i ∧ s.slots[i].num = n ∧
      (((startP s n).2 = 9 ∧ 0 < s.slots[i].step) ∨ ((startP s n).2 = 10 ∧ s.slots[i].step ≤ 0 ∧ s.clock < s.slots[i].frm) ∨
       ((startP s n).2 = 11 ∧ s.slots[i].step ≤ 0 ∧ ¬ s.clock < s.slots[i].frm ∧ lockP s s.slots[i].line = true) ∨
       ((startP s n).2 = 0 ∧ s.slots[i].step ≤ 0 ∧ ¬ s.clock < s.slots[i].frm ∧ lockP s s.slots[i].line = false ∧ (startP s n).1 = { s with slots := repl s.slots (beg s s.slots[i]) } ∧
        Bx.aboutP (abs s) 83 n = (abs (startP s n).1, true)))) := by
  unfold startP
  cases h : find s.slots n with
  | none => left; rw [find_none h]; exact ⟨rfl, by omega⟩
  | some x =>
    right
    obtain ⟨i, hi, rfl, hxn, hF⟩ := find_some hd h
    refine ⟨i, hi, hF, hxn, ?_⟩
    by_cases h9 : 0 < s.slots[i].step
    · left; simp only [h9, if_true]; exact ⟨trivial, trivial⟩
    right
    by_cases h10 : s.clock < s.slots[i].frm
    · left; simp only [h9, h10, if_true, if_false]; exact ⟨trivial, by omega, trivial⟩
    right
    cases h11 : lockP s s.slots[i].line
    · right
      have e' := abs_repl hd hi (beg s s.slots[i]) rfl
      simp only [h9, h10, h11, if_false, Bool.false_eq_true]
      refine ⟨trivial, by omega, not_false, trivial, trivial, ?_⟩
      unfold Bx.aboutP
      rw [hF, if_neg (by omega), if_neg (by omega), if_pos rfl]
      simp only [Int.toNat_natCast]
      have hw : ¬ ((Bx.slAt (abs s) i).runs = true ∨ (abs s).clock < (Bx.slAt (abs s) i).frm ∨ Bx.locked (abs s) i = true) := by
        rw [slAt_abs hi, lock_abs hi (by omega), h11]
        rintro (q | q | q)
        · simp [absS] at q; omega
        · exact h10 q
        · cases q
      rw [if_neg hw, slAt_abs hi]
      simp only [Bx.with']
      rw [if_neg (by omega)]
      show _ = (({ tab := s.tab, clock := s.clock, next := s.next, slots := (repl s.slots (beg s s.slots[i])).map absS, ends := s.ends } : Bx.St), true)
      rw [e']
      rfl
    · left; simp only [h9, h10, h11, if_true, if_false]; exact ⟨trivial, by omega, not_false, trivial⟩
theorem arr_abs (s : St) (p : Nat × Int) : abs (arr s p) = Bx.arr (abs s) p := by
  unfold arr Bx.arr
  have hl : (abs s).slots.length = s.slots.length := by simp [abs]
  by_cases q : 8 ≤ s.slots.length
  · rw [if_pos q, if_neg (by omega)]; rfl
  · rw [if_neg q, if_pos (by omega)]
    simp [abs, slotOf, Bx.slotOf, absS]
theorem arrs_abs (l : List (Nat × Int)) (s : St) : abs (l.foldl arr s) = l.foldl Bx.arr (abs s) := by
  induction l generalizing s with
  | nil => rfl
  | cons p r ih => rw [List.foldl_cons, List.foldl_cons, ih, arr_abs]
theorem comes_abs (s : St) (m : Int) : Bx.comesS (abs s) m = comesP s m := rfl
theorem clock_abs (s : St) (m : Int) (h : (clockP s m).2 = 0) : Bx.clockedP (abs s) m = (abs (clockP s m).1, true) := by
  unfold clockP at h ⊢
  by_cases h4 : m < 0 ∨ 4223371679 < m
  · rw [if_pos h4] at h; cases h
  rw [if_neg h4] at h ⊢
  by_cases h6 : aheadP s m = false
  · rw [if_pos h6] at h; cases h
  rw [if_neg h6] at h ⊢
  by_cases h7 : 10000 < s.next + ((comesP s m).length : Int)
  · rw [if_pos h7] at h; cases h
  rw [if_neg h7]
  have ha : Bx.ahead (abs s) m = true := by
    have : aheadP s m = true := by simpa using h6
    unfold aheadP at this
    have := of_decide_eq_true this
    unfold Bx.ahead
    exact decide_eq_true ⟨by omega, by omega, this.1, this.2⟩
  unfold Bx.clockedP
  rw [if_pos ha, comes_abs, if_pos (by show s.next + _ ≤ _; omega)]
  have := arrs_abs (comesP s m) s
  simp only [← this]
  rfl
theorem clock_err (s : St) (m : Int) : (clockP s m).2 = if m < 0 ∨ 4223371679 < m then 4 else if aheadP s m = false then 6 else if 10000 < s.next + ((comesP s m).length : Int) then 7 else 0 := by
  unfold clockP
  by_cases h4 : m < 0 ∨ 4223371679 < m
  · rw [if_pos h4, if_pos h4]
  rw [if_neg h4, if_neg h4]
  by_cases h6 : aheadP s m = false
  · rw [if_pos h6, if_pos h6]
  rw [if_neg h6, if_neg h6]
  by_cases h7 : 10000 < s.next + ((comesP s m).length : Int)
  · rw [if_pos h7, if_pos h7]
  · rw [if_neg h7, if_neg h7]

/-- A box, as the program keeps it. -/
structure Bo where
  limit : Int
  room : Int
  st : St
  log : ByteArray
/-- The steps of a slot's line. -/
def stepsL (s : St) (x : Sl) : List ByteArray := stepsOf (tl s.tab (x.line - 1).toNat)
/-- A slot that runs, and its talk. -/
def Goes (s : St) (x : Sl) (t : Bx.Tk) : Prop := t.num = x.num ∧ 0 < x.step ∧ ∃ a, a < (stepsL s x).length ∧ Rest (stepsL s x) x t a
/-- The talks and the slots that run. -/
structure Tks (s : St) (l : List Bx.Tk) : Prop where
  dist : l.Pairwise fun a b => a.num ≠ b.num
  of : ∀ t ∈ l, ∃ x ∈ s.slots, Goes s x t
  all : ∀ x ∈ s.slots, 0 < x.step → ∃ t ∈ l, t.num = x.num
/-- A box of the program's and one of the document's. -/
structure Rel (b : Bo) (d : Bx.Bo) : Prop where
  lim : d.limit = b.limit
  room : d.room = b.room
  now : d.now = abs b.st
  txt : d.text = b.log
  tks : Tks b.st d.talks
  ok : Ok b.st
  l1 : 1 ≤ b.limit
  l4 : b.limit ≤ 4
  r0 : 600 ≤ b.room
  r1 : b.room ≤ 4000
  log : (b.log.size : Int) ≤ b.room

theorem Dist.mem {l : List Sl} (h : Dist l) {x y : Sl} (hx : x ∈ l) (hy : y ∈ l) (e : x.num = y.num) : x = y := by
  obtain ⟨i, hi, rfl⟩ := List.mem_iff_getElem.1 hx
  obtain ⟨j, hj, rfl⟩ := List.mem_iff_getElem.1 hy
  have := h.at hi hj e
  subst this; rfl
theorem find_mem {l : List Sl} (hd : Dist l) {x : Sl} (hx : x ∈ l) : find l x.num = some x := by
  unfold find
  cases h : l.find? (fun y => y.num == x.num) with
  | none => have := List.find?_eq_none.1 h x hx; simp at this
  | some y =>
    have hy := List.mem_of_find?_eq_some h
    have hn : y.num = x.num := by simpa using List.find?_some h
    rw [hd.mem hy hx hn]
theorem goesOn_iff {s : St} (hd : Dist s.slots) (t : Bx.Tk) : goesOn (abs s) t = true ↔ ∃ y ∈ s.slots, y.num = t.num ∧ 0 < y.step := by
  unfold goesOn
  cases h : find s.slots t.num with
  | none =>
    rw [find_none h]
    constructor
    · intro q; simp at q
    · rintro ⟨y, hy, hn, _⟩
      rw [← hn, find_mem hd hy] at h; cases h
  | some x =>
    obtain ⟨i, hi, rfl, hxn, hF⟩ := find_some hd h
    rw [hF]
    simp only [Int.toNat_natCast]
    rw [slAt_abs hi]
    constructor
    · intro q; simp [absS] at q; exact ⟨_, List.getElem_mem hi, hxn, q⟩
    · rintro ⟨y, hy, hn, hs⟩
      have := hd.mem hy (List.getElem_mem hi) (by rw [hn, hxn])
      subst this; simp [absS]; exact hs
/-- Talks of slots that do not run any more are over. -/
theorem Tks.hush {s s' : St} {l : List Bx.Tk} (h : Tks s l) (hd : Dist s.slots) (hd' : Dist s'.slots) (ht : s'.tab = s.tab) (hr : ∀ y ∈ s'.slots, 0 < y.step → y ∈ s.slots) : Tks s' (hushL (abs s') l) := by
  refine ⟨h.dist.filter _, ?_, ?_⟩
  · intro t ht'
    obtain ⟨h1, h2⟩ := List.mem_filter.1 ht'
    obtain ⟨y, hy, hn, hs⟩ := (goesOn_iff hd' t).1 h2
    obtain ⟨x, hx, hg⟩ := h.of t h1
    have : y = x := hd.mem (hr y hy hs) hx (by rw [hn, hg.1])
    subst this
    refine ⟨y, hy, hg.1, hs, ?_⟩
    have e : stepsL s' y = stepsL s y := by unfold stepsL; rw [ht]
    rw [e]; exact hg.2.2
  · intro y hy hs
    obtain ⟨t, h1, h2⟩ := h.all y (hr y hy hs) hs
    exact ⟨t, List.mem_filter.2 ⟨h1, (goesOn_iff hd' t).2 ⟨y, hy, h2.symm, hs⟩⟩, h2⟩
end Px
end Go.Proofs.YtdajolpoiffimabDoor

namespace Go.Proofs.YtdajolpoiffimabDoor
namespace Px
open Bx (En push hA hD hK hS)

theorem told_one (s : Bx.St) (c : Bx.Ch) : Bx.told s [c] = Bx.tell s c := rfl
theorem do_about (s : Bx.St) (k n : Int) (t : ByteArray) (h1 : ¬ k = 84) (h2 : ¬ k = 67) : Bx.doP s ⟨k, t, n⟩ = Bx.aboutP s k n := by
  unfold Bx.doP; rw [if_neg h1, if_neg h2]
theorem tell_about {s u : Bx.St} {k n : Int} {t : ByteArray} (h1 : ¬ k = 84) (h2 : ¬ k = 67) (h : Bx.aboutP s k n = (u, true)) : Bx.tell s ⟨k, t, n⟩ = u := by
  unfold Bx.tell; rw [do_about s k n t h1 h2, h]; rfl
theorem frames_one (c : Bx.Ch) : Bx.frames [c] = Bx.frame (Bx.body c) := by simp [Bx.frames]
theorem Ok.num1 {s : St} (h : Ok s) : ∀ x ∈ s.slots, 1 ≤ x.num := fun _ hx => (h.each hx).1
theorem Ok.att {s : St} (h : Ok s) : ∀ x ∈ s.slots, x.att ≤ opt s x.line 2 - 48 := fun _ hx => (h.each hx).2.2.2.2.2
theorem Ok.skip {s : St} (h : Ok s) (n : Int) (how : ByteArray) (hs : Bx.StOk (abs (ended s n how))) : Ok (ended s n how) :=
  ⟨hs, h.rise.filter _, fun x hx => h.ex x ((List.mem_filter.1 hx).1)⟩
theorem repl_mem {l : List Sl} {x y : Sl} (h : y ∈ repl l x) : y = x ∨ y ∈ l := by
  obtain ⟨z, hz, rfl⟩ := List.mem_map.1 h
  by_cases q : (z.num == x.num) = true
  · rw [if_pos q]; exact Or.inl rfl
  · rw [if_neg q]; exact Or.inr hz
theorem Ok.repl {s : St} (h : Ok s) (x : Sl) (hs : Bx.StOk (abs { s with slots := repl s.slots x })) (hx : -1 ≤ x.ans ∧ x.ans ≤ 4223371679 ∧ 0 ≤ x.step ∧ x.step ≤ ((stepsOf (tl s.tab (x.line - 1).toNat)).length : Int) ∧ x.heard.size ≤ 8 ∧ (x.step = 0 → x.heard = ByteArray.empty)) : Ok { s with slots := Px.repl s.slots x } := by
  refine ⟨hs, ?_, fun y hy => ?_⟩
  · unfold Px.repl
    refine List.Pairwise.map _ ?_ h.rise
    intro a b hab
    have ea : (if (a.num == x.num) = true then x else a).num = a.num := by
      split
      · rename_i q; exact (by simpa using q : a.num = x.num).symm
      · rfl
    have eb : (if (b.num == x.num) = true then x else b).num = b.num := by
      split
      · rename_i q; exact (by simpa using q : b.num = x.num).symm
      · rfl
    rw [ea, eb]; exact hab
  · rcases repl_mem hy with rfl | hy
    · exact hx
    · exact h.ex y hy

/-- Cancel. -/
def cancelB (b : Bo) (n : Int) : Bo × Int :=
  if ¬ (cancelP b.st n).2 = 0 then (b, (cancelP b.st n).2)
  else if b.room < (b.log.size : Int) + (Bx.frames [chK n]).size then (b, 13)
  else ({ b with st := (cancelP b.st n).1, log := b.log ++ Bx.frames [chK n] }, 0)
theorem cancel_st {s : St} {n : Int} (h : (cancelP s n).2 = 0) : (cancelP s n).1 = ended s n hK := by
  unfold cancelP at h ⊢
  cases q : find s.slots n with
  | none => rw [q] at h; cases h
  | some x =>
    have hn : x.num = n := by simpa using List.find?_some q
    simp only [hn]
theorem cancel_rel {b : Bo} {d : Bx.Bo} (h : Rel b d) (n : Int) : (cancelB b n).2 = (Go.Proofs.YtdajolpoiffimabDoor.cancelP d n).2 ∧ Rel (cancelB b n).1 (Go.Proofs.YtdajolpoiffimabDoor.cancelP d n).1 := by
  unfold cancelB Go.Proofs.YtdajolpoiffimabDoor.cancelP
  rw [h.now, h.room, h.txt]
  rcases cancel_abs h.ok.dist n h.ok.num1 with ⟨h8, hf⟩ | ⟨h0, ha⟩
  · rw [if_pos (by omega), if_pos hf]; exact ⟨h8, h⟩
  · have hf : ¬ Bx.find (abs b.st) n < 0 := fun q => by
      unfold Bx.aboutP at ha; rw [if_pos q] at ha; exact absurd (congrArg Prod.snd ha) (by simp)
    rw [if_neg (by omega), if_neg hf]
    by_cases hr : b.room < (b.log.size : Int) + (Bx.frames [chK n]).size
    · rw [if_pos hr, if_pos hr]; exact ⟨rfl, h⟩
    · rw [if_neg hr, if_neg hr]
      have hst := cancel_st h0
      have hT : Bx.told d.now [chK n] = abs (ended b.st n hK) := by
        rw [told_one, h.now, ← hst]; exact tell_about (by omega) (by omega) ha
      have hok : Ok (ended b.st n hK) := by
        refine h.ok.skip _ _ ?_
        have := Bx.about_ok h.ok.st 75 n
        rw [ha, hst] at this; exact this
      refine ⟨rfl, h.lim, h.room, (by show Bx.told d.now [chK n] = abs (cancelP b.st n).1; rw [hT, hst]), by simp [addB, h.txt], ?_, hst ▸ hok, h.l1, h.l4, h.r0, h.r1, ?_⟩
      · have e : Bx.told (abs b.st) [chK n] = abs (ended b.st n hK) := by rw [← h.now]; exact hT
        rw [e, hst]
        exact h.tks.hush h.ok.dist hok.dist rfl (fun y hy _ => (List.mem_filter.1 hy).1)
      · simp [ByteArray.size_append] at hr ⊢; omega

/-- Load. -/
def LoadB (b : Bo) (tab : ByteArray) (b' : Bo) (a r : Int) : Prop :=
  (¬ r = 0 ∧ ChkR tab a r ∧ b' = b) ∨ (ChkR tab 0 0 ∧ 0 < b.st.slots.length ∧ b' = b ∧ a = 0 ∧ r = 5) ∨
  (ChkR tab 0 0 ∧ b.st.slots.length = 0 ∧ b.room < (b.log.size : Int) + (Bx.frames [chT tab]).size ∧ b' = b ∧ a = 0 ∧ r = 13) ∨
  (ChkR tab 0 0 ∧ b.st.slots.length = 0 ∧ ¬ b.room < (b.log.size : Int) + (Bx.frames [chT tab]).size ∧ b' = { b with st := { b.st with tab := tab }, log := b.log ++ Bx.frames [chT tab] } ∧ a = 0 ∧ r = 0)
theorem load_rel {b b' : Bo} {d d' : Bx.Bo} {tab : ByteArray} {a r a' r' : Int} (h : Rel b d) (hp : LoadB b tab b' a r) (hd : LoadR d tab d' a' r') : a = a' ∧ r = r' ∧ Rel b' d' := by
  have hl : d.now.slots.length = b.st.slots.length := by rw [h.now]; simp [abs]
  have hf : fits d [chT tab] ↔ ¬ b.room < (b.log.size : Int) + (Bx.frames [chT tab]).size := by unfold fits; rw [h.room, h.txt]
  rcases hp with ⟨p1, p2, rfl⟩ | ⟨p2, p3, rfl, rfl, rfl⟩ | ⟨p2, p3, p4, rfl, rfl, rfl⟩ | ⟨p2, p3, p4, rfl, rfl, rfl⟩
  · rcases hd with ⟨q1, q2, rfl⟩ | ⟨q2, _⟩ | ⟨q2, _⟩ | ⟨q2, _⟩
    · obtain ⟨rfl, rfl⟩ := p2.uniq q2; exact ⟨rfl, rfl, h⟩
    all_goals exact absurd (p2.uniq q2).2 p1
  · rcases hd with ⟨q1, q2, _⟩ | ⟨q2, q3, rfl, rfl, rfl⟩ | ⟨q2, q3, _⟩ | ⟨q2, q3, _⟩
    · exact absurd (q2.uniq p2).2 q1
    · exact ⟨rfl, rfl, h⟩
    · omega
    · omega
  · rcases hd with ⟨q1, q2, _⟩ | ⟨q2, q3, _⟩ | ⟨q2, q3, q4, rfl, rfl, rfl⟩ | ⟨q2, q3, q4, _⟩
    · exact absurd (q2.uniq p2).2 q1
    · omega
    · exact ⟨rfl, rfl, h⟩
    · exact absurd p4 (hf.1 q4)
  · rcases hd with ⟨q1, q2, _⟩ | ⟨q2, q3, _⟩ | ⟨q2, q3, q4, _⟩ | ⟨q2, q3, q4, rfl, rfl, rfl⟩
    · exact absurd (q2.uniq p2).2 q1
    · omega
    · exact absurd (hf.2 p4) q4
    · have hT : Bx.told d.now [chT tab] = abs { b.st with tab := tab } := by
        rw [told_one, h.now]
        have e : Bx.doP (abs b.st) (chT tab) = (abs { b.st with tab := tab }, true) := by
          unfold Bx.doP
          rw [if_pos (show (chT tab).kind = 84 from rfl), if_pos ⟨p2, by simpa [abs] using p3⟩]
          rfl
        unfold Bx.tell
        rw [e]; rfl
      have hnil : b.st.slots = [] := List.eq_nil_of_length_eq_zero p3
      have hst : Bx.StOk (abs { b.st with tab := tab }) := by
        rw [← hT]; exact Bx.told_ok (by rw [h.now]; exact h.ok.st) _
      have hok : Ok { b.st with tab := tab } := ⟨hst, by simp [hnil], by simp [hnil]⟩
      have ht : d.talks = [] := by
        cases e : d.talks with
        | nil => rfl
        | cons t r => obtain ⟨x, hx, _⟩ := h.tks.of t (by rw [e]; simp); rw [hnil] at hx; cases hx
      refine ⟨rfl, rfl, h.lim, h.room, hT, by simp [addB, h.txt], ?_, hok, h.l1, h.l4, h.r0, h.r1, ?_⟩
      · show Tks _ d.talks
        rw [ht]; exact ⟨List.Pairwise.nil, by simp, by simp [hnil]⟩
      · simp [ByteArray.size_append] at p4 ⊢; omega
end Px
end Go.Proofs.YtdajolpoiffimabDoor

namespace Go.Proofs.YtdajolpoiffimabDoor
namespace Px
open Bx (En push hA hD hK hS)

/-- A slot that was not answered fails. -/
def failStep (p : St × ByteArray) (n : Int) : St × ByteArray := if (failP p.1 n).2 = 0 then ((failP p.1 n).1, p.2 ++ Bx.frame (Bx.body (chF n))) else p
noncomputable def tickQ (b : Bo) (m : Int) : St × ByteArray := (late (clockP b.st m).1).foldl failStep ((clockP b.st m).1, Bx.frame (Bx.body (chCl m)))
noncomputable def tickB (b : Bo) (m : Int) : Bo × Int × Int :=
  if ¬ (clockP b.st m).2 = 0 then (b, 0, (clockP b.st m).2)
  else if b.room < (b.log.size : Int) + (tickQ b m).2.size then (b, 0, 13)
  else ({ b with st := (tickQ b m).1, log := b.log ++ (tickQ b m).2 }, (clockP b.st m).1.next - b.st.next, 0)
theorem fail_ok {s : St} (h : Ok s) (n : Int) (h0 : (failP s n).2 = 0) : Ok (failP s n).1 := by
  have hst : Bx.StOk (abs (failP s n).1) := by
    rcases fail_abs h.dist n h.num1 h.att with ⟨q, _⟩ | ⟨q, _⟩ | ⟨_, q⟩
    · omega
    · omega
    · have := Bx.about_ok h.st 70 n; rw [q] at this; exact this
  unfold failP at h0 hst ⊢
  cases q : find s.slots n with
  | none => rw [q] at h0; cases h0
  | some x =>
    rw [q] at h0 hst
    simp only at h0 hst ⊢
    by_cases h9 : x.step ≤ 0
    · rw [if_pos h9] at h0; cases h0
    rw [if_neg h9] at hst ⊢
    by_cases ha : opt s x.line 2 - 48 ≤ x.att
    · rw [if_pos ha] at hst ⊢; exact h.skip _ _ hst
    · rw [if_neg ha] at hst ⊢
      exact h.repl _ hst ⟨by show (-1 : Int) ≤ 0; omega, by show (0 : Int) ≤ _; omega, by show (0 : Int) ≤ 0; omega, by show (0 : Int) ≤ ((_ : Nat) : Int); omega, by show (0 : Nat) ≤ 8; omega, fun _ => rfl⟩
/-- Another slot is as it was; one that runs was there. -/
theorem fail_other {s : St} (n : Int) (h0 : (failP s n).2 = 0) : (failP s n).1.tab = s.tab ∧ (∀ y ∈ (failP s n).1.slots, 0 < y.step → y ∈ s.slots) ∧ ∀ y ∈ s.slots, ¬ y.num = n → y ∈ (failP s n).1.slots := by
  unfold failP at h0 ⊢
  cases q : find s.slots n with
  | none => rw [q] at h0; cases h0
  | some x =>
    rw [q] at h0
    have hn : x.num = n := by simpa using List.find?_some q
    simp only at h0 ⊢
    by_cases h9 : x.step ≤ 0
    · rw [if_pos h9] at h0; cases h0
    rw [if_neg h9]
    by_cases ha : opt s x.line 2 - 48 ≤ x.att
    · rw [if_pos ha]
      exact ⟨rfl, fun y hy _ => (List.mem_filter.1 hy).1, fun y hy hne => List.mem_filter.2 ⟨hy, by simpa using hne⟩⟩
    · rw [if_neg ha]
      refine ⟨rfl, fun y hy hs => ?_, fun y hy hne => ?_⟩
      · rcases repl_mem hy with rfl | hy
        · exact absurd hs (by show ¬ (0 : Int) < 0; omega)
        · exact hy
      · refine List.mem_map.2 ⟨y, hy, ?_⟩
        have : (y.num == (again s x).num) = false := by
          have : ¬ y.num = (again s x).num := by show ¬ y.num = x.num; rw [hn]; exact hne
          simpa using this
        rw [this]; rfl
theorem fails_rel (ns : List Int) : ∀ (s : St) (f : ByteArray), Ok s → (∀ n ∈ ns, ∃ x ∈ s.slots, x.num = n ∧ 0 < x.step) → ns.Pairwise (· ≠ ·) →
    (ns.map chF).foldl Bx.tell (abs s) = abs (ns.foldl failStep (s, f)).1 ∧ (ns.foldl failStep (s, f)).2 = (ns.map chF).foldl (fun s c => s ++ Bx.frame (Bx.body c)) f ∧ Ok (ns.foldl failStep (s, f)).1 ∧
    (ns.foldl failStep (s, f)).1.tab = s.tab ∧ ∀ y ∈ (ns.foldl failStep (s, f)).1.slots, 0 < y.step → y ∈ s.slots := by
  induction ns with
  | nil => intro s f h _ _; exact ⟨rfl, rfl, h, rfl, fun y hy _ => hy⟩
  | cons n r ih =>
    intro s f h hall hp
    obtain ⟨x, hx, hxn, hxs⟩ := hall n (by simp)
    have hF : find s.slots n = some x := by rw [← hxn]; exact find_mem h.dist hx
    have h0 : (failP s n).2 = 0 := by
      unfold failP; rw [hF]; simp only
      rw [if_neg (by omega)]; split <;> rfl
    obtain ⟨o1, o2, o3⟩ := fail_other n h0
    have hp' := List.pairwise_cons.1 hp
    have e : failStep (s, f) n = ((failP s n).1, f ++ Bx.frame (Bx.body (chF n))) := by unfold failStep; rw [if_pos h0]
    obtain ⟨i1, i2, i3, i4, i5⟩ := ih (failP s n).1 (f ++ Bx.frame (Bx.body (chF n))) (fail_ok h n h0) (fun k hk => by
      obtain ⟨y, hy, hyn, hys⟩ := hall k (by simp [hk])
      exact ⟨y, o3 y hy (by rw [hyn]; exact fun e => hp'.1 k hk e.symm), hyn, hys⟩) hp'.2
    rw [List.map_cons, List.foldl_cons, List.foldl_cons, List.foldl_cons, e]
    refine ⟨?_, i2, i3, by rw [i4, o1], fun y hy hs => o2 y (i5 y hy hs) hs⟩
    have ht : Bx.tell (abs s) (chF n) = abs (failP s n).1 := by
      rcases fail_abs h.dist n h.num1 h.att with ⟨q, _⟩ | ⟨q, _⟩ | ⟨_, q⟩
      · omega
      · omega
      · exact tell_about (by omega) (by omega) q
    rw [ht]; exact i1
theorem arrs_slots (l : List (Nat × Int)) (s : St) : ∃ z, (l.foldl arr s).slots = s.slots ++ z ∧ (∀ y ∈ z, y.step = 0 ∧ y.ans = 0 ∧ y.heard = ByteArray.empty ∧ s.next ≤ y.num ∧ y.num < s.next + l.length) ∧ z.Pairwise (fun a b => a.num < b.num) ∧ (l.foldl arr s).next = s.next + l.length ∧ (l.foldl arr s).tab = s.tab ∧ (l.foldl arr s).clock = s.clock := by
  induction l generalizing s with
  | nil => exact ⟨[], by simp, by simp, List.Pairwise.nil, by simp, rfl, rfl⟩
  | cons p r ih =>
    rw [List.foldl_cons]
    obtain ⟨z, h1, h2, h3, h4, h5, h6⟩ := ih (arr s p)
    have hn : (arr s p).next = s.next + 1 := by unfold arr; split <;> rfl
    have ht : (arr s p).tab = s.tab := by unfold arr; split <;> rfl
    have hc : (arr s p).clock = s.clock := by unfold arr; split <;> rfl
    by_cases q : 8 ≤ s.slots.length
    · have e : (arr s p).slots = s.slots := by unfold arr; rw [if_pos q]
      refine ⟨z, by rw [h1, e], fun y hy => ?_, h3, by rw [h4, hn]; simp; omega, by rw [h5, ht], by rw [h6, hc]⟩
      obtain ⟨a1, a2, a3, a4, a5⟩ := h2 y hy
      exact ⟨a1, a2, a3, by omega, by simp; omega⟩
    · have e : (arr s p).slots = s.slots ++ [slotOf p s.next] := by unfold arr; rw [if_neg q]
      refine ⟨slotOf p s.next :: z, by rw [h1, e]; simp, fun y hy => ?_, List.pairwise_cons.2 ⟨fun y hy => ?_, h3⟩, by rw [h4, hn]; simp; omega, by rw [h5, ht], by rw [h6, hc]⟩
      · rcases List.mem_cons.1 hy with rfl | hy
        · exact ⟨rfl, rfl, rfl, by show s.next ≤ s.next; omega, by show s.next < _; simp; omega⟩
        · obtain ⟨a1, a2, a3, a4, a5⟩ := h2 y hy
          exact ⟨a1, a2, a3, by omega, by simp; omega⟩
      · obtain ⟨_, _, _, a4, _⟩ := h2 y hy
        show s.next < y.num; omega
theorem clock_st {s : St} {m : Int} (h0 : (clockP s m).2 = 0) : 0 ≤ m ∧ m ≤ 4223371679 ∧ aheadP s m = true ∧ ¬ 10000 < s.next + ((comesP s m).length : Int) ∧ (clockP s m).1 = { (comesP s m).foldl arr s with clock := m } := by
  have e := clock_err s m
  rw [h0] at e
  by_cases h4 : m < 0 ∨ 4223371679 < m
  · rw [if_pos h4] at e; cases e
  rw [if_neg h4] at e
  by_cases h6 : aheadP s m = false
  · rw [if_pos h6] at e; cases e
  rw [if_neg h6] at e
  by_cases h7 : 10000 < s.next + ((comesP s m).length : Int)
  · rw [if_pos h7] at e; cases e
  refine ⟨by omega, by omega, by simpa using h6, h7, ?_⟩
  unfold clockP; rw [if_neg h4, if_neg h6, if_neg h7]
theorem clock_ok {s : St} (h : Ok s) {m : Int} (h0 : (clockP s m).2 = 0) : Ok (clockP s m).1 := by
  have hst : Bx.StOk (abs (clockP s m).1) := by
    have := Bx.clocked_ok h.st m; rw [clock_abs s m h0] at this; exact this
  obtain ⟨_, _, _, _, e⟩ := clock_st h0
  obtain ⟨z, h1, h2, h3, h4, h5, h6⟩ := arrs_slots (comesP s m) s
  rw [e] at hst ⊢
  refine ⟨hst, ?_, fun x hx => ?_⟩
  · show ((comesP s m).foldl arr s).slots.Pairwise _
    rw [h1, List.pairwise_append]
    refine ⟨h.rise, h3, fun a ha b hb => ?_⟩
    have := (h.each ha).2.1; have := (h2 b hb).2.2.2.1; omega
  · have hx' : x ∈ s.slots ++ z := by rw [← h1]; exact hx
    rcases List.mem_append.1 hx' with hx' | hx'
    · have := h.ex x hx'
      show _ ∧ _ ∧ _ ∧ x.step ≤ ((stepsOf (tl ((comesP s m).foldl arr s).tab (x.line - 1).toNat)).length : Int) ∧ _
      rw [h5]; exact this
    · obtain ⟨a1, a2, a3, _, _⟩ := h2 x hx'
      exact ⟨by omega, by omega, by omega, by rw [a1]; show (0 : Int) ≤ ((_ : Nat) : Int); omega, by rw [a3]; decide, fun _ => a3⟩
/-- The talk of a slot. -/
theorem Tks.talk {s : St} {l : List Bx.Tk} (h : Tks s l) (hd : Dist s.slots) {x : Sl} (hx : x ∈ s.slots) :
    (0 < x.step → ∃ k : Nat, ∃ hk : k < l.length, talkOf l x.num = k ∧ Goes s x l[k]) ∧ (x.step ≤ 0 → talkOf l x.num = -1) := by
  constructor
  · intro hs
    obtain ⟨t, ht, hn⟩ := h.all x hx hs
    obtain ⟨k, hk, rfl⟩ := List.mem_iff_getElem.1 ht
    refine ⟨k, hk, talkOf_some hk hn (fun j hj hjk e => ?_), ?_⟩
    · exact List.pairwise_iff_getElem.1 h.dist j k hj hk hjk (by rw [e, hn])
    · obtain ⟨y, hy, hg⟩ := h.of _ ht
      have : y = x := hd.mem hy hx (by rw [← hg.1, hn])
      subst this; exact hg
  · intro hs
    refine talkOf_none (fun j hj e => ?_)
    obtain ⟨y, hy, hg⟩ := h.of _ (List.getElem_mem hj)
    have : y = x := hd.mem hy hx (by rw [← hg.1, e])
    subst this
    have := hg.2.1; omega
def ltB (m : Int) (x : Sl) : Bool := decide (0 < x.step) && decide (x.ans ≤ m - 3)
theorem late_iff {b : Bo} {d : Bx.Bo} (h : Rel b d) (m : Int) {x : Sl} (hx : x ∈ b.st.slots) : Go.Proofs.YtdajolpoiffimabDoor.late d m x.num = ltB m x := by
  unfold Go.Proofs.YtdajolpoiffimabDoor.late ltB
  obtain ⟨h1, h2⟩ := h.tks.talk h.ok.dist hx
  by_cases hs : 0 < x.step
  · obtain ⟨k, hk, e, hg⟩ := h1 hs
    rw [e]
    obtain ⟨a, _, hr⟩ := hg.2.2
    have e2 : tkAt d ((k : Int)).toNat = d.talks[k] := by simp [tkAt, hk]
    rw [e2]
    have := hr.ans
    congr 1
    · simp [hs]
    · apply decide_eq_decide.2; omega
  · rw [h2 (by omega)]; simp [hs]
theorem tickK_list {b : Bo} {d : Bx.Bo} (h : Rel b d) (m : Int) (k : Nat) (hk : k ≤ b.st.slots.length) : tickK d m k = chCl m :: (((b.st.slots.take k).filter (ltB m)).map (·.num)).map chF := by
  induction k with
  | zero => rfl
  | succ k ih =>
    have hk' : k < b.st.slots.length := by omega
    have e : (Bx.slAt d.now k).num = b.st.slots[k].num := by rw [h.now, slAt_abs hk']; rfl
    rw [tickK, ih (by omega), e, late_iff h m (List.getElem_mem hk'), List.take_succ_eq_append_getElem hk', List.filter_append]
    by_cases q : ltB m b.st.slots[k] = true
    · rw [if_pos q]; simp [q]
    · rw [if_neg q]; simp [q]
theorem late_clock {s : St} {m : Int} (h0 : (clockP s m).2 = 0) : late (clockP s m).1 = (s.slots.filter (ltB m)).map (·.num) := by
  obtain ⟨_, _, _, _, e⟩ := clock_st h0
  obtain ⟨z, h1, h2, _⟩ := arrs_slots (comesP s m) s
  unfold late
  rw [e]
  show (((comesP s m).foldl arr s).slots.filter fun x => decide (0 < x.step) && decide (x.ans ≤ m - 3)).map (·.num) = _
  rw [h1, List.filter_append]
  have : z.filter (fun x => decide (0 < x.step) && decide (x.ans ≤ m - 3)) = [] := by
    rw [List.filter_eq_nil_iff]
    intro y hy
    have := (h2 y hy).1
    simp; omega
  rw [this, List.append_nil]; rfl
theorem frames_fold (l : List Bx.Ch) (c : Bx.Ch) : Bx.frames (c :: l) = l.foldl (fun s c => s ++ Bx.frame (Bx.body c)) (Bx.frame (Bx.body c)) := by simp [Bx.frames]
theorem Rise.nums {l : List Sl} (h : l.Pairwise fun a b => a.num < b.num) (p : Sl → Bool) : ((l.filter p).map (·.num)).Pairwise (· ≠ ·) :=
  List.Pairwise.map _ (fun _ _ hab => by omega) (h.filter p)
theorem tick_all {b : Bo} {d : Bx.Bo} (h : Rel b d) (m : Int) (h0 : (clockP b.st m).2 = 0) :
    Bx.told d.now (tickL d m) = abs (tickQ b m).1 ∧ Bx.frames (tickL d m) = (tickQ b m).2 ∧ Ok (tickQ b m).1 ∧ (tickQ b m).1.tab = b.st.tab ∧ ∀ y ∈ (tickQ b m).1.slots, 0 < y.step → y ∈ b.st.slots := by
  have hl : d.now.slots.length = b.st.slots.length := by rw [h.now]; simp [abs]
  have eL : tickL d m = chCl m :: (late (clockP b.st m).1).map chF := by
    unfold tickL; rw [hl, tickK_list h m _ (Nat.le_refl _), List.take_length, late_clock h0]
  have hnums : ∀ n ∈ late (clockP b.st m).1, ∃ x ∈ b.st.slots, x.num = n ∧ 0 < x.step := by
    rw [late_clock h0]
    intro n hn
    obtain ⟨x, hx, rfl⟩ := List.mem_map.1 hn
    obtain ⟨hx1, hx2⟩ := List.mem_filter.1 hx
    refine ⟨x, hx1, rfl, ?_⟩
    unfold ltB at hx2; simp at hx2; exact hx2.1
  obtain ⟨_, _, _, _, eC⟩ := clock_st h0
  obtain ⟨z, h1, h2, h3, h4, h5, h6⟩ := arrs_slots (comesP b.st m) b.st
  have hsl : (clockP b.st m).1.slots = b.st.slots ++ z := by rw [eC]; exact h1
  have htab : (clockP b.st m).1.tab = b.st.tab := by rw [eC]; exact h5
  obtain ⟨f1, f2, f3, f4, f5⟩ := fails_rel (late (clockP b.st m).1) (clockP b.st m).1 (Bx.frame (Bx.body (chCl m))) (clock_ok h.ok h0) (fun n hn => by
    obtain ⟨x, hx, a, c⟩ := hnums n hn
    exact ⟨x, by rw [hsl]; simp [hx], a, c⟩) (by rw [late_clock h0]; exact Rise.nums h.ok.rise _)
  refine ⟨?_, ?_, f3, by rw [← htab]; exact f4, fun y hy hs => ?_⟩
  · rw [eL]
    unfold Bx.told
    rw [List.foldl_cons]
    have ht : Bx.tell d.now (chCl m) = abs (clockP b.st m).1 := by
      rw [h.now]
      have e : Bx.doP (abs b.st) (chCl m) = (abs (clockP b.st m).1, true) := by
        unfold Bx.doP
        rw [if_neg (show ¬ (chCl m).kind = 84 by show ¬ (67 : Int) = 84; omega), if_pos (show (chCl m).kind = 67 from rfl)]
        exact clock_abs b.st m h0
      unfold Bx.tell; rw [e]; rfl
    rw [ht]; exact f1
  · rw [eL, frames_fold]; exact f2.symm
  · have := f5 y hy hs
    rw [hsl] at this
    rcases List.mem_append.1 this with q | q
    · exact q
    · have := (h2 y q).1; omega
theorem tick_rel {b : Bo} {d : Bx.Bo} (h : Rel b d) (m : Int) : (tickB b m).2 = (tickP d m).2 ∧ Rel (tickB b m).1 (tickP d m).1 := by
  have e := clock_err b.st m
  unfold tickB tickP
  by_cases h4 : m < 0 ∨ 4223371679 < m
  · rw [if_pos h4] at e
    rw [if_pos (by omega), if_pos (by rw [minB_no h4]; simp), e]; exact ⟨rfl, h⟩
  rw [if_neg h4] at e
  rw [if_neg (show ¬ ¬ minB m = true by rw [minB_yes (by omega) (by omega)]; simp)]
  have hah : Bx.ahead d.now m = aheadP b.st m := by
    rw [h.now]; unfold Bx.ahead aheadP
    apply decide_eq_decide.2
    show (0 ≤ m ∧ m ≤ 4223371679 ∧ b.st.clock < m ∧ (b.st.clock = -1 ∨ m - b.st.clock ≤ 1500)) ↔ _
    omega
  rw [hah]
  by_cases h6 : aheadP b.st m = false
  · rw [if_pos h6] at e
    rw [if_pos (by omega), if_pos (by rw [h6]; simp), e]; exact ⟨rfl, h⟩
  rw [if_neg h6] at e
  rw [if_neg (show ¬ ¬ aheadP b.st m = true by simpa using h6)]
  have hcm : Bx.comesS d.now m = comesP b.st m := by rw [h.now]; rfl
  have hnx : d.now.next = b.st.next := by rw [h.now]; rfl
  rw [hcm, hnx]
  by_cases h7 : 10000 < b.st.next + ((comesP b.st m).length : Int)
  · rw [if_pos h7] at e
    rw [if_pos (by omega), if_pos h7, e]; exact ⟨rfl, h⟩
  rw [if_neg h7] at e
  rw [if_neg (by omega), if_neg h7]
  obtain ⟨t1, t2, t3, t4, t5⟩ := tick_all h m e
  rw [t2, h.room, h.txt]
  by_cases hr : b.room < (b.log.size : Int) + (tickQ b m).2.size
  · rw [if_pos hr, if_pos hr]; exact ⟨rfl, h⟩
  · rw [if_neg hr, if_neg hr]
    obtain ⟨_, _, _, _, eC⟩ := clock_st e
    obtain ⟨z, h1, h2, h3, h4', h5, h6'⟩ := arrs_slots (comesP b.st m) b.st
    have hn : (clockP b.st m).1.next - b.st.next = ((comesP b.st m).length : Int) := by
      rw [eC]; show ((comesP b.st m).foldl arr b.st).next - _ = _; rw [h4']; omega
    refine ⟨by rw [hn], h.lim, h.room, t1, by simp [addB, h.txt, t2], ?_, t3, h.l1, h.l4, h.r0, h.r1, ?_⟩
    · show Tks (tickQ b m).1 (hushL (Bx.told d.now (tickL d m)) d.talks)
      rw [t1]
      exact h.tks.hush h.ok.dist t3.dist t4 t5
    · simp [ByteArray.size_append] at hr ⊢; omega
end Px
end Go.Proofs.YtdajolpoiffimabDoor
