/-
  PTalk, PTalk2, PStart, DuoM, CallM, RunM.
-/
import Derived.Test.YtdajolpoiffimabDoorG2

namespace Go.Proofs.YtdajolpoiffimabDoor
namespace Px
open Bx (En push hA hD hK hS)

theorem repl_repl (l : List Sl) (a b : Sl) (h : a.num = b.num) : repl (repl l a) b = repl l b := by
  unfold repl
  rw [List.map_map]
  apply List.map_congr_left
  intro y _
  simp only [Function.comp]
  by_cases q : (y.num == a.num) = true
  · have q' : (y.num == b.num) = true := by rw [← h]; exact q
    rw [if_pos q, if_pos q', if_pos (by simpa using h)]
  · rw [if_neg q]
theorem skip_repl (l : List Sl) (x : Sl) (n : Int) (h : x.num = n) : skip (repl l x) n = skip l n := by
  unfold skip repl
  induction l with
  | nil => rfl
  | cons y r ih =>
    rw [List.map_cons]
    by_cases q : y.num = x.num
    · rw [if_pos (by simpa using q), List.filter_cons_of_neg (by simp [h]), List.filter_cons_of_neg (by simp [q, h]), ih]
    · rw [if_neg (by simpa using q), List.filter_cons_of_pos (by simpa [← h] using q), List.filter_cons_of_pos (by simpa [← h] using q), ih]
theorem find_repl {l : List Sl} {x y : Sl} (hy : y ∈ l) (h : y.num = x.num) : find (repl l x) x.num = some x := by
  unfold find repl
  induction l with
  | nil => cases hy
  | cons z r ih =>
    rw [List.map_cons]
    by_cases q : z.num = x.num
    · rw [if_pos (by simpa using q), List.find?_cons_of_pos (by simp)]
    · rw [if_neg (by simpa using q), List.find?_cons_of_neg (by simpa using q)]
      rcases List.mem_cons.1 hy with rfl | hy
      · exact absurd h q
      · exact ih hy
theorem repl_keep {l : List Sl} {x y : Sl} (hy : y ∈ l) (h : ¬ y.num = x.num) : y ∈ repl l x :=
  List.mem_map.2 ⟨y, hy, by rw [if_neg (by simpa using h)]⟩
theorem repl_new {l : List Sl} {x y : Sl} (hy : y ∈ l) (h : y.num = x.num) : x ∈ repl l x :=
  List.mem_map.2 ⟨y, hy, by rw [if_pos (by simpa using h)]⟩
theorem repl_mem' {l : List Sl} {x y : Sl} (h : y ∈ repl l x) : y = x ∨ (y ∈ l ∧ ¬ y.num = x.num) := by
  obtain ⟨z, hz, rfl⟩ := List.mem_map.1 h
  by_cases q : (z.num == x.num) = true
  · rw [if_pos q]; exact Or.inl rfl
  · rw [if_neg q]; exact Or.inr ⟨hz, by simpa using q⟩
theorem repl_abs (s : St) {x y : Sl} (hd : Dist s.slots) (hy : y ∈ s.slots) (h : absS x = absS y) : abs { s with slots := repl s.slots x } = abs s := by
  unfold abs repl
  simp only [List.map_map]
  congr 1
  apply List.map_congr_left
  intro z hz
  simp only [Function.comp]
  have hn : x.num = y.num := congrArg Bx.Sl.num h
  by_cases q : (z.num == x.num) = true
  · rw [if_pos q, h]
    have : z = y := hd.mem hz hy (by rw [← hn]; simpa using q)
    rw [this]
  · rw [if_neg q]
theorem filter_set {l : List Sl} {p : Sl → Bool} {i : Nat} {x : Sl} (hi : i < l.length) (h1 : p l[i] = false) (h2 : p x = true) : ((l.set i x).filter p).length = (l.filter p).length + 1 := by
  induction l generalizing i with
  | nil => simp at hi
  | cons a r ih =>
    cases i with
    | zero =>
      simp only [List.getElem_cons_zero] at h1
      rw [List.set_cons_zero, List.filter_cons_of_pos h2, List.filter_cons_of_neg (by simp [h1])]; simp
    | succ i =>
      have hi' : i < r.length := by simpa using hi
      have := ih hi' (by simpa using h1)
      rw [List.set_cons_succ]
      by_cases q : p a = true
      · rw [List.filter_cons_of_pos q, List.filter_cons_of_pos q]; simp [this]
      · rw [List.filter_cons_of_neg q, List.filter_cons_of_neg q, this]
theorem goF_ans (L : List ByteArray) (c : Int) (n : Nat) (x : Sl) : (goF L c n x).1.ans = x.ans ∨ (goF L c n x).1.ans = c := by
  induction n generalizing x with
  | zero => exact Or.inl rfl
  | succ n ih =>
    rw [goF]
    split
    · exact Or.inl rfl
    · split
      · exact ih { x with step := x.step + 1 }
      · split
        · exact Or.inl rfl
        · rcases ih { x with step := x.step + 1, heard := behS x.heard (wordAt L (x.step - 1).toNat), ans := c } with q | q
          · exact Or.inr q
          · exact Or.inr q

/-- A slot hears a text and talks. -/
def heardS (y : Sl) (x : ByteArray) : Sl := { y with heard := y.heard ++ x }
def talkS (s : St) (y : Sl) (x : ByteArray) : Sl × ByteArray := goF (stepsL s y) s.clock ((stepsL s y).length + 1) (heardS y x)
def talkT (s : St) (y : Sl) (x : ByteArray) : St := { s with slots := repl s.slots (talkS s y x).1 }
def commitB (b : Bo) (s : St) (fr said : ByteArray) : Bo × ByteArray × Int :=
  if b.room < (b.log.size : Int) + fr.size then (b, ByteArray.empty, 13) else ({ b with st := s, log := b.log ++ fr }, said, 0)
def talkB (b : Bo) (s : St) (n : Int) (x fr : ByteArray) : Bo × ByteArray × Int :=
  match find s.slots n with
  | none => (b, ByteArray.empty, 8)
  | some y => if y.step ≤ 0 then (b, ByteArray.empty, 9)
    else if ((stepsL s y).length : Int) < (talkS s y x).1.step then
      (if ¬ (doneP (talkT s y x) n).2 = 0 then (b, ByteArray.empty, (doneP (talkT s y x) n).2) else commitB b (doneP (talkT s y x) n).1 (fr ++ Bx.frame (Bx.body (chD n))) (talkS s y x).2)
    else commitB b (talkT s y x) fr (talkS s y x).2
def feedB (b : Bo) (n : Int) (x : ByteArray) : Bo × ByteArray × Int := if 40 < x.size then (b, ByteArray.empty, 1) else talkB b b.st n x ByteArray.empty
def startB (b : Bo) (n : Int) : Bo × ByteArray × Int :=
  if ¬ (startP b.st n).2 = 0 then (b, ByteArray.empty, (startP b.st n).2)
  else if b.limit < ((runs (startP b.st n).1 : Nat) : Int) then (b, ByteArray.empty, 12)
  else talkB b (startP b.st n).1 n ByteArray.empty (Bx.frame (Bx.body (chS n)))
theorem done_talk {s : St} {y X : Sl} {n : Int} (hy : y ∈ s.slots) (hn : y.num = n) (hX : X.num = n) (hs : 0 < X.step) : doneP { s with slots := repl s.slots X } n = (ended s n hD, 0) := by
  unfold doneP
  have : find (repl s.slots X) n = some X := by rw [← hX]; exact find_repl hy (by rw [hn, hX])
  simp only [this]
  rw [if_neg (by omega)]
  unfold ended
  simp only [skip_repl s.slots X n hX]
theorem steps_size {s : St} (h : Ok s) {y : Sl} (hy : y ∈ s.slots) : 1 ≤ (stepsL s y).length ∧ (stepsL s y).length ≤ 5 ∧ ∀ z ∈ stepsL s y, 2 ≤ z.size ∧ z.size ≤ 9 := by
  have h1 := h.each hy
  have hl := h.st.tab.lines.2.2 (y.line - 1).toNat (by show _ < tn s.tab; omega)
  exact ⟨(stepsOf_len hl).1, (stepsOf_len hl).2, step_sz hl⟩
theorem word_size {L : List ByteArray} {a : Nat} (h : a < L.length) (hL : ∀ z ∈ L, 2 ≤ z.size ∧ z.size ≤ 9) : 1 ≤ (wordAt L a).size ∧ (wordAt L a).size ≤ 8 := by
  have := hL _ (List.getElem_mem h)
  rw [← word_eq h]
  simp [ByteArray.size_extract]; omega
theorem app_list (a b : ByteArray) : (a ++ b).data.toList = a.data.toList ++ b.data.toList := by simp [ByteArray.data_append]
theorem size_list (a : ByteArray) : a.data.toList.length = a.size := by simp
end Px
end Go.Proofs.YtdajolpoiffimabDoor

namespace Go.Proofs.YtdajolpoiffimabDoor
namespace Px
open Bx (En push hA hD hK hS)

/-- The talks behind one that goes on. -/
theorem Tks.set {s : St} {l : List Bx.Tk} (h : Tks s l) (_hd : Dist s.slots) {y X : Sl} {T : Bx.Tk} {k : Nat} (hk : k < l.length) (hy : y ∈ s.slots) (hg : Goes s y l[k]) (hL : Like y X) (hT : T.num = l[k].num) (hs : 0 < X.step) {a : Nat} (ha : a < (stepsL s y).length) (hR : Rest (stepsL s y) X T a) :
    Tks { s with slots := repl s.slots X } (l.set k T) := by
  have hXn : X.num = y.num := hL.1
  have eL : ∀ z, stepsL { s with slots := repl s.slots X } z = stepsL s z := fun _ => rfl
  have eX : stepsL s X = stepsL s y := by unfold stepsL; rw [hL.2.1]
  refine ⟨?_, ?_, ?_⟩
  · rw [List.pairwise_iff_getElem]
    intro i j hi hj hij
    have hi' : i < l.length := by simpa using hi
    have hj' : j < l.length := by simpa using hj
    have base := List.pairwise_iff_getElem.1 h.dist i j hi' hj' hij
    have num : ∀ (m : Nat) (hm : m < l.length), ((l.set k T)[m]'(by simpa using hm)).num = l[m].num := by
      intro m hm
      by_cases q : k = m
      · subst q; simp [hT]
      · rw [List.getElem_set_ne q]
    rw [num i hi', num j hj']; exact base
  · intro t ht
    obtain ⟨j, hj, rfl⟩ := List.mem_iff_getElem.1 ht
    have hj' : j < l.length := by simpa using hj
    by_cases q : k = j
    · subst q
      refine ⟨X, repl_new hy hXn.symm, ?_⟩
      rw [List.getElem_set_self]
      exact ⟨by rw [hT, hg.1, hXn], hs, a, by rw [eL, eX]; exact ha, by rw [eL, eX]; exact hR⟩
    · rw [List.getElem_set_ne q]
      obtain ⟨x, hx, hgx⟩ := h.of _ (List.getElem_mem hj')
      have hne : ¬ x.num = X.num := by
        rw [hXn, ← hgx.1, ← hg.1]
        intro e
        rcases Nat.lt_or_gt_of_ne q with c | c
        · exact List.pairwise_iff_getElem.1 h.dist k j hk hj' c e.symm
        · exact List.pairwise_iff_getElem.1 h.dist j k hj' hk c e
      exact ⟨x, repl_keep hx hne, hgx⟩
  · intro x hx hxs
    rcases repl_mem' hx with rfl | ⟨hx, hne⟩
    · exact ⟨T, List.mem_iff_getElem.2 ⟨k, by simpa using hk, by simp⟩, by rw [hT, hg.1, hXn]⟩
    · obtain ⟨t, ht, hn⟩ := h.all x hx hxs
      obtain ⟨j, hj, rfl⟩ := List.mem_iff_getElem.1 ht
      have q : ¬ k = j := by
        intro q; subst q
        exact hne (by rw [← hn, hg.1, hXn])
      exact ⟨l[j], List.mem_iff_getElem.2 ⟨j, by simpa using hj, by rw [List.getElem_set_ne q]⟩, hn⟩
theorem rest_heard {L : List ByteArray} {x : Sl} {t : Bx.Tk} {a : Nat} (h : Rest L x t a) (ha : a < L.length) (hL : ∀ z ∈ L, 2 ≤ z.size ∧ z.size ≤ 9) : x.heard.size ≤ 7 := by
  obtain ⟨_, _, h3⟩ := h.hear ha
  have := word_size ha hL
  rw [← size_list, h3, lastN, List.length_drop]
  omega
theorem feed_rel {b : Bo} {d : Bx.Bo} (h : Rel b d) (n : Int) (x : ByteArray) : (feedB b n x).2 = (feedP d n x).2 ∧ Rel (feedB b n x).1 (feedP d n x).1 := by
  unfold feedB feedP
  by_cases h40 : 40 < x.size
  · rw [if_pos h40, if_pos h40]; exact ⟨rfl, h⟩
  rw [if_neg h40, if_neg h40]
  unfold talkB
  cases hF : find b.st.slots n with
  | none =>
    have := find_none hF
    rw [← h.now] at this
    rw [if_pos (by omega)]; exact ⟨rfl, h⟩
  | some y =>
    obtain ⟨i, hi, hyi, hyn, hFd⟩ := find_some h.ok.dist hF
    have hy : y ∈ b.st.slots := by rw [← hyi]; exact List.getElem_mem hi
    rw [← h.now] at hFd
    rw [if_neg (by omega)]
    obtain ⟨t1, t2⟩ := h.tks.talk h.ok.dist hy
    rw [hyn] at t1 t2
    simp only
    by_cases hs : y.step ≤ 0
    · rw [if_pos hs, if_pos (by rw [t2 hs]; omega)]; exact ⟨rfl, h⟩
    rw [if_neg hs]
    obtain ⟨k, hk, hTk, hg⟩ := t1 (by omega)
    obtain ⟨a, ha, hR⟩ := hg.2.2
    rw [hTk, if_neg (show ¬ (k : Int) < 0 by omega)]
    have eL : startL d n = stepsL b.st y := by
      unfold startL stepsS stepsL
      rw [hFd, h.now]; simp only [Int.toNat_natCast]; rw [slAt_abs hi, hyi]; rfl
    have eH : feedH d n x = hearF (stepsL b.st y) b.st.clock (stepsL b.st y).length (more d.talks[k] x) := by
      unfold feedH
      rw [eL, hTk]
      have : tkAt d ((k : Int)).toNat = d.talks[k] := by simp [tkAt, hk]
      rw [this, h.now]; rfl
    obtain ⟨_, s5, sz⟩ := steps_size h.ok hy
    obtain ⟨q1, q2, q3⟩ := hR.hear ha
    have hw := word_size ha sz
    obtain ⟨r1, ⟨a', r2⟩, r3, r4⟩ := hear_same (stepsL b.st y) b.st.clock _ a (stepsL b.st y).length ((stepsL b.st y).length + 1) (heardS y x) (more d.talks[k] x) rfl (by omega) (by omega) hR.at' hR.le hR.step hR.ans
      (fun _ => ⟨q1, by
        show behL _ (y.heard ++ x).data.toList = behL _ (d.talks[k].heard ++ x).data.toList
        rw [app_list, app_list, q3, ← size_list]
        exact beh_last _ _ _ (by rw [size_list]; omega) q2, fun _ => by
        show lastN _ (y.heard ++ x).data.toList = lastN _ (d.talks[k].heard ++ x).data.toList
        rw [app_list, app_list, q3, lastN_app]⟩)
    have eT : talkS b.st y x = goF (stepsL b.st y) b.st.clock ((stepsL b.st y).length + 1) (heardS y x) := rfl
    rw [← eT] at r1 r2 r3
    rw [← eH] at r1 r2 r4
    have hXn : (talkS b.st y x).1.num = n := by rw [← hyn]; exact r3.1
    have hXs : 0 < (talkS b.st y x).1.step := by rw [r2.step]; omega
    rw [eL]
    by_cases ho : ((stepsL b.st y).length : Int) < (talkS b.st y x).1.step
    · have ho' : ((stepsL b.st y).length : Int) ≤ (feedH d n x).1.at' := by rw [r2.at']; rw [r2.step] at ho; omega
      rw [if_pos ho, if_pos ho']
      have hdn : doneP (talkT b.st y x) n = (ended b.st n hD, 0) := done_talk hy hyn hXn hXs
      rw [hdn]
      simp only [not_true, if_false]
      unfold commitB
      have efr : ByteArray.empty ++ Bx.frame (Bx.body (chD n)) = Bx.frames [chD n] := by rw [frames_one, ba_nil_app]
      rw [efr, h.room, h.txt]
      by_cases hr : b.room < (b.log.size : Int) + (Bx.frames [chD n]).size
      · rw [if_pos hr, if_pos hr]; exact ⟨rfl, h⟩
      · rw [if_neg hr, if_neg hr]
        have hab : Bx.aboutP (abs b.st) 68 n = (abs (ended b.st n hD), true) := by
          have e : doneP b.st n = (ended b.st n hD, 0) := by unfold doneP; rw [hF]; simp only; rw [if_neg hs]
          rcases done_abs h.ok.dist n h.ok.num1 with ⟨q, _⟩ | ⟨q, _⟩ | ⟨_, q⟩
          · rw [e] at q; cases q
          · rw [e] at q; cases q
          · rw [e] at q; exact q
        have hT : Bx.told d.now [chD n] = abs (ended b.st n hD) := by
          rw [told_one, h.now]; exact tell_about (by omega) (by omega) hab
        have hok : Ok (ended b.st n hD) := by
          refine h.ok.skip _ _ ?_
          have := Bx.about_ok h.ok.st 68 n
          rw [hab] at this; exact this
        refine ⟨by rw [r1], h.lim, h.room, hT, by simp [addB, h.txt], ?_, hok, h.l1, h.l4, h.r0, h.r1, ?_⟩
        · show Tks (ended b.st n hD) (hushL (Bx.told d.now [chD n]) d.talks)
          rw [hT]
          exact h.tks.hush h.ok.dist hok.dist rfl (fun z hz _ => (List.mem_filter.1 hz).1)
        · simp [ByteArray.size_append] at hr ⊢; omega
    · have ho' : ¬ ((stepsL b.st y).length : Int) ≤ (feedH d n x).1.at' := by rw [r2.at']; rw [r2.step] at ho; omega
      rw [if_neg ho, if_neg ho']
      have ha' : a' < (stepsL b.st y).length := by have := r2.step; omega
      unfold commitB
      have hr : ¬ b.room < (b.log.size : Int) + ByteArray.empty.size := by have := h.log; show ¬ _ < _ + ((0 : Nat) : Int); omega
      rw [if_neg hr]
      have habs : abs (talkT b.st y x) = abs b.st := by
        refine repl_abs b.st h.ok.dist hy ?_
        obtain ⟨l1, l2, l3, l4, l5⟩ := r3
        unfold absS
        have e1 : (talkS b.st y x).1.num = y.num := l1
        have e2 : (talkS b.st y x).1.line = y.line := l2
        have e3 : (talkS b.st y x).1.minute = y.minute := l3
        have e4 : (talkS b.st y x).1.att = y.att := l4
        have e5 : (talkS b.st y x).1.frm = y.frm := l5
        rw [e1, e2, e3, e4, e5, decide_eq_true hXs, decide_eq_true (by omega : 0 < y.step)]
      have hex := h.ok.ex y hy
      have hans : (talkS b.st y x).1.ans = y.ans ∨ (talkS b.st y x).1.ans = b.st.clock := goF_ans _ _ _ _
      have hc1 : -1 ≤ b.st.clock := h.ok.st.c1
      have hc2 : b.st.clock ≤ 4223371679 := h.ok.st.c2
      have hok : Ok (talkT b.st y x) := by
        refine h.ok.repl _ (by show Bx.StOk (abs (talkT b.st y x)); rw [habs]; exact h.ok.st) ⟨?_, ?_, by omega, by have := r2.step; have el : (talkS b.st y x).1.line = y.line := r3.2.1; rw [el]; show _ ≤ ((stepsL b.st y).length : Int); omega, ?_, fun q => by omega⟩
        · rcases hans with q | q <;> omega
        · rcases hans with q | q <;> omega
        · have := rest_heard r2 ha' sz; omega
      have hLk : Like y (talkS b.st y x).1 := Like.trans (⟨rfl, rfl, rfl, rfl, rfl⟩ : Like y (heardS y x)) r3
      refine ⟨by rw [r1], h.lim, h.room, by show d.now = abs (talkT b.st y x); rw [habs]; exact h.now, by simp [h.txt], ?_, hok, h.l1, h.l4, h.r0, h.r1, by simpa using h.log⟩
      show Tks (talkT b.st y x) (d.talks.set ((k : Int)).toNat (feedH d n x).1)
      rw [Int.toNat_natCast]
      exact h.tks.set h.ok.dist hk hy hg hLk r4 hXs ha' r2
end Px
end Go.Proofs.YtdajolpoiffimabDoor

namespace Go.Proofs.YtdajolpoiffimabDoor
namespace Px
open Bx (En push hA hD hK hS)

theorem behL_nil {w : List UInt8} (h : 0 < w.length) : behL w [] = none := behL_short (by simpa using h)
/-- What a slot that was just started comes to. -/
theorem go_start (L : List ByteArray) (c : Int) (x : Sl) (hx : x.step = 1) (hh : x.heard = ByteArray.empty) (sz : ∀ z ∈ L, 2 ≤ z.size ∧ z.size ≤ 9) :
    (goF L c (L.length + 1) x) = ({ x with step := (((saysL L).2 : Nat) : Int) + 1 }, (saysL L).1) := by
  obtain ⟨n', h1, h2⟩ := goF_says L c L.length 0 (L.length + 1) x rfl (by omega) (by rw [hx]; rfl) (by omega)
  rw [List.drop_zero, Nat.zero_add] at h2
  rw [List.drop_zero] at h1
  have hk := saysL_le L
  obtain ⟨n'', rfl⟩ : ∃ k, n' = k + 1 := ⟨n' - 1, by omega⟩
  rw [h2]
  have key : goF L c (n'' + 1) { x with step := (((saysL L).2 : Nat) : Int) + 1 } = ({ x with step := (((saysL L).2 : Nat) : Int) + 1 }, ByteArray.empty) := by
    by_cases q : (saysL L).2 < L.length
    · rw [goF]
      have e1 : ((((saysL L).2 : Nat) : Int) + 1 - 1).toNat = (saysL L).2 := by omega
      have e2 : L.getD (saysL L).2 ByteArray.empty = L[(saysL L).2] := by simp [q]
      have e3 := saysL_stop L q
      simp only [e1, e2, e3]
      rw [if_neg (by omega), if_neg (by simp)]
      have hb : behB x.heard (wordAt L (saysL L).2) = false := by
        unfold behB
        rw [hh]
        have := word_size q sz
        have e : ByteArray.empty.data.toList = [] := rfl
        rw [e, behL_nil (by rw [size_list]; omega)]; rfl
      rw [if_pos hb]
      have : lastB x.heard ((wordAt L (saysL L).2).size - 1) = x.heard := by
        rw [hh]; unfold lastB
        rw [if_neg (by show ¬ _ < 0; omega)]
      rw [this]
    · rw [goF, if_pos (by show (L.length : Int) < _; simp only; omega)]
  rw [key, ba_app_nil]
theorem runs_repl {s : St} (hd : Dist s.slots) {i : Nat} (hi : i < s.slots.length) (hw : s.slots[i].step ≤ 0) {X : Sl} (hX : X.num = s.slots[i].num) (hs : 0 < X.step) : runs { s with slots := repl s.slots X } = runs s + 1 := by
  unfold runs
  simp only
  rw [repl_set hd hi X hX]
  exact filter_set hi (by simp; omega) (by simpa using hs)
set_option maxHeartbeats 1000000 in
theorem start_rel {b : Bo} {d : Bx.Bo} (h : Rel b d) (n : Int) : (startB b n).2 = (Go.Proofs.YtdajolpoiffimabDoor.startP d n).2 ∧ Rel (startB b n).1 (Go.Proofs.YtdajolpoiffimabDoor.startP d n).1 := by
  unfold startB Go.Proofs.YtdajolpoiffimabDoor.startP
  have hnow := h.now
  rcases start_abs h.ok.dist n with ⟨e8, hf⟩ | ⟨i, hi, hF, hn, hc⟩
  · have er : refusedP d (Bx.find d.now n) = 8 := by unfold refusedP; rw [hnow, if_pos hf]
    rw [if_pos (by omega), er, if_pos (by omega), e8]; exact ⟨rfl, h⟩
  have hFd : Bx.find d.now n = i := by rw [hnow]; exact hF
  have hsl : Bx.slAt d.now ((i : Int)).toNat = absS b.st.slots[i] := by rw [hnow, Int.toNat_natCast, slAt_abs hi]
  have hcl : d.now.clock = b.st.clock := by rw [hnow]; rfl
  have efm : (absS b.st.slots[i]).frm = b.st.slots[i].frm := rfl
  rcases hc with ⟨e, q⟩ | ⟨e, q1, q2⟩ | ⟨e, q1, q2, q3⟩ | ⟨e, q1, q2, q3, q4, q5⟩
  · have er : refusedP d (Bx.find d.now n) = 9 := by
      unfold refusedP; rw [hFd, if_neg (by omega), hsl, if_pos (by simpa [absS] using q)]
    rw [if_pos (by omega), er, if_pos (by omega), e]; exact ⟨rfl, h⟩
  · have er : refusedP d (Bx.find d.now n) = 10 := by
      unfold refusedP; rw [hFd, if_neg (by omega), hsl, if_neg (by simp [absS]; omega), hcl, efm, if_pos q2]
    rw [if_pos (by omega), er, if_pos (by omega), e]; exact ⟨rfl, h⟩
  · have er : refusedP d (Bx.find d.now n) = 11 := by
      unfold refusedP; rw [hFd, if_neg (by omega), hsl, if_neg (by simp [absS]; omega), hcl, efm, if_neg q2, Int.toNat_natCast, hnow, lock_abs hi q1, if_pos q3]
    rw [if_pos (by omega), er, if_pos (by omega), e]; exact ⟨rfl, h⟩
  have hr0 : refusedP d (Bx.find d.now n) = if b.limit ≤ (runs b.st : Int) then 12 else 0 := by
    unfold refusedP; rw [hFd, if_neg (by omega), hsl, if_neg (by simp [absS]; omega), hcl, efm, if_neg q2, Int.toNat_natCast, hnow, lock_abs hi q1, if_neg (by simp [q3]), runs_abs, h.lim]
  have hrun : runs (startP b.st n).1 = runs b.st + 1 := by rw [q4]; exact runs_repl h.ok.dist hi q1 rfl (by show (0 : Int) < 1; omega)
  rw [if_neg (by omega), hrun]
  by_cases h12 : b.limit ≤ (runs b.st : Int)
  · rw [if_pos h12] at hr0
    rw [if_pos (by omega), hr0, if_pos (by omega)]; exact ⟨rfl, h⟩
  rw [if_neg h12] at hr0
  rw [if_neg (by omega), if_neg (by rw [hr0]; simp)]
  have hy : b.st.slots[i] ∈ b.st.slots := List.getElem_mem hi
  generalize hyg : b.st.slots[i] = y at *
  have hh0 := h.ok.ex y hy
  have hyh : y.heard = ByteArray.empty := hh0.2.2.2.2.2 (by omega)
  obtain ⟨s1, s5, sz⟩ := steps_size h.ok hy
  have eL : startL d n = stepsL b.st y := by
    unfold startL stepsS stepsL
    rw [hFd, hsl, h.now]; rfl
  have hFs : find (startP b.st n).1.slots n = some (beg b.st y) := by
    rw [q4]
    have hbn : (beg b.st y).num = n := hn
    rw [← hbn]; exact find_repl hy rfl
  have eLs : stepsL (startP b.st n).1 (beg b.st y) = stepsL b.st y := by rw [q4]; rfl
  have ecl : (startP b.st n).1.clock = b.st.clock := by rw [q4]
  have hT : talkS (startP b.st n).1 (beg b.st y) ByteArray.empty = ({ beg b.st y with step := (((saysL (stepsL b.st y)).2 : Nat) : Int) + 1 }, (saysL (stepsL b.st y)).1) := by
    unfold talkS
    rw [eLs, ecl]
    have : heardS (beg b.st y) ByteArray.empty = beg b.st y := by
      unfold heardS; rw [ba_app_nil]
    rw [this]
    exact go_start _ _ _ rfl hyh sz
  unfold talkB
  rw [hFs]
  simp only
  rw [if_neg (show ¬ (beg b.st y).step ≤ 0 by show ¬ (1 : Int) ≤ 0; omega), eLs, hT, eL]
  have hk := saysL_le (stepsL b.st y)
  have etT : talkT (startP b.st n).1 (beg b.st y) ByteArray.empty = { b.st with slots := repl b.st.slots { beg b.st y with step := (((saysL (stepsL b.st y)).2 : Nat) : Int) + 1 } } := by
    unfold talkT
    rw [hT, q4]
    have rr := repl_repl b.st.slots (beg b.st y) { beg b.st y with step := (((saysL (stepsL b.st y)).2 : Nat) : Int) + 1 } rfl
    simp only
    rw [rr]
  have hS : Bx.tell d.now (chS n) = abs (startP b.st n).1 := by rw [hnow]; exact tell_about (by omega) (by omega) q5
  have hok1 : Ok (startP b.st n).1 := by
    have hst : Bx.StOk (abs (startP b.st n).1) := by
      have := Bx.about_ok h.ok.st 83 n
      rw [q5] at this; exact this
    rw [q4] at hst ⊢
    exact h.ok.repl _ hst ⟨h.ok.st.c1, h.ok.st.c2, by show (0 : Int) ≤ 1; omega, by show (1 : Int) ≤ ((stepsL b.st y).length : Int); omega, by show y.heard.size ≤ 8; omega, fun q => by simp [beg] at q⟩
  have hyt : ∀ t ∈ d.talks, ∃ x ∈ b.st.slots, ¬ x.num = n ∧ Goes b.st x t := by
    intro t ht
    obtain ⟨x, hx, hg⟩ := h.tks.of t ht
    refine ⟨x, hx, ?_, hg⟩
    intro e'
    have : x = y := h.ok.dist.mem hx hy (by rw [e', hn])
    subst this
    have := hg.2.1; omega
  by_cases ho : (saysL (stepsL b.st y)).2 = (stepsL b.st y).length
  · rw [if_pos (show ((stepsL b.st y).length : Int) < ((saysL (stepsL b.st y)).2 : Int) + 1 by omega)]
    have hdn : doneP (talkT (startP b.st n).1 (beg b.st y) ByteArray.empty) n = (ended b.st n hD, 0) := by
      rw [etT]; exact done_talk hy hn hn (by simp only; omega)
    rw [hdn]
    simp only [not_true, if_false]
    have eC : startC (stepsL b.st y) n = [chS n] ++ [chD n] := by unfold startC; rw [if_pos ho]
    have efr : Bx.frame (Bx.body (chS n)) ++ Bx.frame (Bx.body (chD n)) = Bx.frames (startC (stepsL b.st y) n) := by rw [eC]; simp [Bx.frames]
    unfold commitB
    rw [efr, h.room, h.txt]
    by_cases hr : b.room < (b.log.size : Int) + (Bx.frames (startC (stepsL b.st y) n)).size
    · rw [if_pos hr, if_pos hr]; exact ⟨rfl, h⟩
    · rw [if_neg hr, if_neg hr]
      have hab : Bx.aboutP (abs (startP b.st n).1) 68 n = (abs (ended b.st n hD), true) := by
        have e' : doneP (startP b.st n).1 n = (ended b.st n hD, 0) := by
          rw [q4]; exact done_talk hy hn hn (by show (0 : Int) < 1; omega)
        rcases done_abs hok1.dist n hok1.num1 with ⟨q, _⟩ | ⟨q, _⟩ | ⟨_, q⟩
        · rw [e'] at q; cases q
        · rw [e'] at q; cases q
        · rw [e'] at q; exact q
      have hTo : Bx.told d.now (startC (stepsL b.st y) n) = abs (ended b.st n hD) := by
        rw [eC]
        show Bx.tell (Bx.tell d.now (chS n)) (chD n) = _
        rw [hS]; exact tell_about (by omega) (by omega) hab
      have hok : Ok (ended b.st n hD) := by
        refine h.ok.skip _ _ ?_
        have := Bx.about_ok hok1.st 68 n
        rw [hab] at this; exact this
      refine ⟨rfl, h.lim, h.room, hTo, by simp [addB, h.txt], ?_, hok, h.l1, h.l4, h.r0, h.r1, ?_⟩
      · show Tks (ended b.st n hD) (if (saysL (stepsL b.st y)).2 < (stepsL b.st y).length then _ else d.talks)
        rw [if_neg (by omega)]
        refine ⟨h.tks.dist, fun t ht => ?_, fun x hx hxs => h.tks.all x (List.mem_filter.1 hx).1 hxs⟩
        obtain ⟨x, hx, hne, hg⟩ := hyt t ht
        exact ⟨x, List.mem_filter.2 ⟨hx, by simpa using hne⟩, hg⟩
      · simp [ByteArray.size_append] at hr ⊢; omega
  · have hlt : (saysL (stepsL b.st y)).2 < (stepsL b.st y).length := by omega
    rw [if_neg (show ¬ ((stepsL b.st y).length : Int) < ((saysL (stepsL b.st y)).2 : Int) + 1 by omega), etT]
    have eC : startC (stepsL b.st y) n = [chS n] := by unfold startC; rw [if_neg ho]
    have efr : Bx.frame (Bx.body (chS n)) = Bx.frames (startC (stepsL b.st y) n) := by rw [eC, frames_one]
    unfold commitB
    rw [efr, h.room, h.txt]
    by_cases hr : b.room < (b.log.size : Int) + (Bx.frames (startC (stepsL b.st y) n)).size
    · rw [if_pos hr, if_pos hr]; exact ⟨rfl, h⟩
    · rw [if_neg hr, if_neg hr]
      generalize hX : ({ beg b.st y with step := (((saysL (stepsL b.st y)).2 : Nat) : Int) + 1 } : Sl) = X
      have hXn : X.num = n := by rw [← hX]; exact hn
      have hXs : X.step = (((saysL (stepsL b.st y)).2 : Nat) : Int) + 1 := by rw [← hX]
      have habs : abs { b.st with slots := repl b.st.slots X } = abs (startP b.st n).1 := by
        rw [q4]
        have hm : beg b.st y ∈ (repl b.st.slots (beg b.st y)) := repl_new hy rfl
        have := repl_abs { b.st with slots := repl b.st.slots (beg b.st y) } (x := X) (y := beg b.st y) (by have := hok1.dist; rw [q4] at this; exact this) hm (by
          rw [← hX]; unfold absS beg; simp only
          rw [decide_eq_true (by omega), decide_eq_true (by omega)])
        simp only at this
        rw [repl_repl b.st.slots (beg b.st y) X (by rw [← hX])] at this
        exact this
      have hTo : Bx.told d.now (startC (stepsL b.st y) n) = abs { b.st with slots := repl b.st.slots X } := by
        rw [eC, told_one, hS, habs]
      have hok : Ok { b.st with slots := repl b.st.slots X } := by
        refine h.ok.repl _ (by rw [habs]; exact hok1.st) ⟨?_, ?_, by omega, (by have el : X.line = y.line := (by rw [← hX]; rfl); rw [el]; show _ ≤ ((stepsL b.st y).length : Int); omega), ?_, fun q => by omega⟩
        · rw [← hX]; exact h.ok.st.c1
        · rw [← hX]; exact h.ok.st.c2
        · rw [← hX]; show y.heard.size ≤ 8; omega
      refine ⟨rfl, h.lim, h.room, hTo, by simp [addB, h.txt], ?_, hok, h.l1, h.l4, h.r0, h.r1, ?_⟩
      · show Tks { b.st with slots := repl b.st.slots X } (if (saysL (stepsL b.st y)).2 < (stepsL b.st y).length then d.talks ++ [⟨n, ((saysL (stepsL b.st y)).2 : Nat), d.now.clock, { data := #[] }⟩] else d.talks)
        rw [if_pos hlt, hcl]
        have eX : stepsL { b.st with slots := repl b.st.slots X } X = stepsL b.st y := by rw [← hX]; rfl
        have hgX : Goes { b.st with slots := repl b.st.slots X } X ⟨n, ((saysL (stepsL b.st y)).2 : Nat), b.st.clock, { data := #[] }⟩ := by
          refine ⟨hXn.symm, by omega, (saysL (stepsL b.st y)).2, by rw [eX]; exact hlt, ?_⟩
          rw [eX]
          have hwz := word_size hlt sz
          refine ⟨rfl, by omega, hXs, by rw [← hX]; rfl, fun _ => ⟨saysL_stop _ hlt, behL_nil (by rw [size_list]; omega), ?_⟩⟩
          rw [← hX]
          show y.heard.data.toList = _
          rw [hyh]
          show ([] : List UInt8) = lastN _ []
          simp [lastN]
        refine ⟨?_, ?_, ?_⟩
        · rw [List.pairwise_append]
          refine ⟨h.tks.dist, by simp, fun t ht u hu => ?_⟩
          obtain ⟨x, hx, hne, hg⟩ := hyt t ht
          simp at hu; subst hu
          rw [hg.1]; exact hne
        · intro t ht
          rcases List.mem_append.1 ht with ht | ht
          · obtain ⟨x, hx, hne, hg⟩ := hyt t ht
            exact ⟨x, repl_keep hx (by rw [hXn]; exact hne), hg⟩
          · simp at ht; subst ht
            exact ⟨X, repl_new hy (by rw [hXn]; exact hn), hgX⟩
        · intro x hx hxs
          rcases repl_mem' hx with rfl | ⟨hx, hne⟩
          · exact ⟨_, List.mem_append.2 (Or.inr (List.mem_singleton.2 rfl)), hXn.symm⟩
          · obtain ⟨t, ht, e'⟩ := h.tks.all x hx hxs
            exact ⟨t, List.mem_append.2 (Or.inl ht), e'⟩
      · simp [ByteArray.size_append] at hr ⊢; omega
end Px
end Go.Proofs.YtdajolpoiffimabDoor

namespace Go.Proofs.YtdajolpoiffimabDoor
namespace Px

theorem inj_len {α : Type} : ∀ (l m : List α), l.Pairwise (· ≠ ·) → (∀ x ∈ l, x ∈ m) → l.length ≤ m.length := by
  intro l
  induction l with
  | nil => intro m _ _; simp
  | cons a r ih =>
    intro m hp hs
    obtain ⟨m1, m2, rfl⟩ := List.append_of_mem (hs a (by simp))
    have hp' := List.pairwise_cons.1 hp
    have := ih (m1 ++ m2) hp'.2 (fun x hx => by
      have h1 := hs x (by simp [hx])
      have h2 : x ≠ a := fun e => hp'.1 x hx e.symm
      simp only [List.mem_append, List.mem_cons] at h1 ⊢
      rcases h1 with h | h | h
      · exact Or.inl h
      · exact absurd h h2
      · exact Or.inr h)
    simp only [List.length_append, List.length_cons] at this ⊢
    omega
theorem Rel.len {b : Bo} {d : Bx.Bo} (h : Rel b d) : d.talks.length ≤ 8 := by
  have h1 := inj_len (d.talks.map (·.num)) (b.st.slots.map (·.num)) (List.pairwise_map.2 h.tks.dist) (fun n hn => by
    obtain ⟨t, ht, rfl⟩ := List.mem_map.1 hn
    obtain ⟨x, hx, hg⟩ := h.tks.of t ht
    exact List.mem_map.2 ⟨x, hx, hg.1.symm⟩)
  have := h.ok.len
  simp only [List.length_map] at h1
  omega
theorem Rel.boOk {b : Bo} {d : Bx.Bo} (h : Rel b d) : BoOk d := by
  refine ⟨?_, ?_, ?_, ?_, ?_⟩
  · rw [h.now]; exact h.ok.st
  · rw [h.txt]; have := h.log; have := h.r1; omega
  · have := h.len; omega
  · intro t ht
    obtain ⟨x, hx, _, _, a, _, hr⟩ := h.tks.of t ht
    have := h.ok.ex x hx
    rw [← hr.ans]; exact ⟨this.1, this.2.1⟩
  · intro t ht
    obtain ⟨x, hx, _, _, a, ha, hr⟩ := h.tks.of t ht
    have := (steps_size h.ok hx).2.1
    rw [hr.at']; omega
theorem Rel.ends {b : Bo} {d : Bx.Bo} (h : Rel b d) : d.now.ends = b.st.ends := by rw [h.now]; rfl
theorem Rel.slen {b : Bo} {d : Bx.Bo} (h : Rel b d) : d.now.slots.length = b.st.slots.length := by rw [h.now]; simp [abs]
theorem Rel.at_le {b : Bo} {d : Bx.Bo} (h : Rel b d) (n : Int) (ht : ¬ talkOf d.talks n < 0) : (tkAt d (talkOf d.talks n).toNat).at' ≤ (startL d n).length := by
  have hex : ∃ k : Nat, ∃ hk : k < d.talks.length, talkOf d.talks n = k ∧ d.talks[k].num = n := by
    unfold talkOf at ht ⊢
    cases q : d.talks.findIdx? (fun t => t.num == n) with
    | none => rw [q] at ht; simp at ht
    | some i =>
      obtain ⟨hi, he, _⟩ := List.findIdx?_eq_some_iff_getElem.1 q
      exact ⟨i, hi, rfl, by simpa using he⟩
  obtain ⟨k, hk, e, hn⟩ := hex
  rw [e, Int.toNat_natCast, ← tkAt_eq d k hk]
  obtain ⟨x, hx, hg, _, a, ha, hr⟩ := h.tks.of _ (List.getElem_mem hk)
  have hxn : x.num = n := by rw [← hg, hn]
  have hF : find b.st.slots n = some x := by rw [← hxn]; exact find_mem h.ok.dist hx
  obtain ⟨i, hi, rfl, hxn', hFi⟩ := find_some h.ok.dist hF
  have eL : startL d n = stepsL b.st b.st.slots[i] := by
    unfold startL stepsS stepsL
    rw [h.now, hFi, Int.toNat_natCast, slAt_abs hi]; rfl
  rw [eL, hr.at']; have := hr.le; omega
theorem Rel.step {b : Bo} {d : Bx.Bo} (h : Rel b d) {x : Sl} (hx : x ∈ b.st.slots) : (if 0 ≤ talkOf d.talks x.num then (tkAt d (talkOf d.talks x.num).toNat).at' + 1 else 0) = x.step := by
  obtain ⟨h1, h2⟩ := h.tks.talk h.ok.dist hx
  by_cases q : 0 < x.step
  · obtain ⟨k, hk, e, hg⟩ := h1 q
    obtain ⟨_, _, a, _, hr⟩ := hg
    rw [e, if_pos (by omega), Int.toNat_natCast, ← tkAt_eq d k hk, hr.at', hr.step]
  · rw [h2 (by omega), if_neg (by omega)]
    have := (h.ok.ex x hx).2.2.1
    omega
theorem Rel.sl {b : Bo} {d : Bx.Bo} (h : Rel b d) {k : Nat} (hk : k < b.st.slots.length) : Bx.slAt d.now k = absS b.st.slots[k] := by rw [h.now, slAt_abs hk]
/-- No talk has heard more than this. -/
def HMax (d : Bx.Bo) (N : Nat) : Prop := ∀ t ∈ d.talks, t.heard.size ≤ N
theorem HMax.mono {d : Bx.Bo} {N M : Nat} (h : HMax d N) (hl : N ≤ M) : HMax d M := fun t ht => Nat.le_trans (h t ht) hl
theorem hush_mem {s : Bx.St} {l : List Bx.Tk} {t : Bx.Tk} (h : t ∈ hushL s l) : t ∈ l := (List.mem_filter.1 h).1
theorem HMax.load {d d' : Bx.Bo} {N : Nat} {tab : ByteArray} {a r : Int} (h : HMax d N) (hl : LoadR d tab d' a r) : HMax d' N := by
  have : d'.talks = d.talks := by
    rcases hl with ⟨_, _, rfl⟩ | ⟨_, _, rfl, _⟩ | ⟨_, _, _, rfl, _⟩ | ⟨_, _, _, rfl, _⟩ <;> rfl
  intro t ht; rw [this] at ht; exact h t ht
theorem HMax.tick {d : Bx.Bo} {N : Nat} (h : HMax d N) (m : Int) : HMax (tickP d m).1 N := by
  unfold tickP
  repeat' split
  all_goals first | exact h | exact fun t ht => h t (hush_mem ht)
theorem HMax.cancel {d : Bx.Bo} {N : Nat} (h : HMax d N) (n : Int) : HMax (Go.Proofs.YtdajolpoiffimabDoor.cancelP d n).1 N := by
  unfold Go.Proofs.YtdajolpoiffimabDoor.cancelP
  repeat' split
  all_goals first | exact h | exact fun t ht => h t (hush_mem ht)
theorem HMax.start {d : Bx.Bo} {N : Nat} (h : HMax d N) (n : Int) : HMax (Go.Proofs.YtdajolpoiffimabDoor.startP d n).1 N := by
  unfold Go.Proofs.YtdajolpoiffimabDoor.startP
  repeat' split
  all_goals first
    | exact h
    | (intro t ht
       rcases List.mem_append.1 ht with q | q
       · exact h t q
       · have : t = _ := List.mem_singleton.1 q
         subst this; show (0 : Nat) ≤ N; omega)
theorem hearF_heard (L : List ByteArray) (c : Int) (n : Nat) : ∀ t : Bx.Tk, (hearF L c n t).1.heard.size ≤ t.heard.size := by
  induction n with
  | zero => intro t; exact Nat.le_refl _
  | succ n ih =>
    intro t
    rw [hearF]
    split
    · exact Nat.le_refl _
    · split
      · exact Nat.le_refl _
      · exact Nat.le_trans (ih _) (behS_size _ _)
theorem HMax.feed {d : Bx.Bo} {N : Nat} (h : HMax d N) (n : Int) (x : ByteArray) : HMax (feedP d n x).1 (N + 40) := by
  have h' : HMax d (N + 40) := h.mono (by omega)
  unfold feedP
  by_cases h40 : 40 < x.size
  · rw [if_pos h40]; exact h'
  rw [if_neg h40]
  repeat' split
  all_goals first
    | exact h'
    | exact fun t ht => h' t (hush_mem ht)
    | (intro t ht
       rcases List.mem_or_eq_of_mem_set ht with q | q
       · exact h' t q
       · subst q
         have h1 := hearF_heard (startL d n) d.now.clock (startL d n).length (more (tkAt d (talkOf d.talks n).toNat) x)
         have h2 : (tkAt d (talkOf d.talks n).toNat).heard.size ≤ N := by
           unfold tkAt
           by_cases q : (talkOf d.talks n).toNat < d.talks.length
           · rw [List.getD_eq_getElem?_getD, List.getElem?_eq_getElem q]; exact h _ (List.getElem_mem q)
           · rw [List.getD_eq_getElem?_getD, List.getElem?_eq_none (by omega)]; exact Nat.zero_le _
         have h3 : (more (tkAt d (talkOf d.talks n).toNat) x).heard.size = (tkAt d (talkOf d.talks n).toNat).heard.size + x.size := by unfold more; exact ByteArray.size_append ..
         show (feedH d n x).1.heard.size ≤ N + 40
         unfold feedH
         omega)
end Px
end Go.Proofs.YtdajolpoiffimabDoor

namespace Go.Proofs.YtdajolpoiffimabDoor
namespace Px
/-- A box has gone on by some changes. -/
structure Adv (b b' : Bo) (L : List Bx.Ch) : Prop where
  log : b'.log = b.log ++ Bx.frames L
  st : abs b'.st = Bx.told (abs b.st) L
  may : Bx.May (abs b.st) L
  lr : b'.limit = b.limit ∧ b'.room = b.room
  fit : (b'.log.size : Int) ≤ b'.room
theorem fit_num {k n : Int} (hk : k = 83 ∨ k = 68 ∨ k = 70 ∨ k = 75) (h1 : 1 ≤ n) (h2 : n < 10000) : Bx.ChFit ⟨k, { data := #[] }, n⟩ := Or.inr (Or.inr ⟨hk, rfl, by show 0 ≤ n; omega, by show n < 65536; omega⟩)
theorem Ok.num {s : St} (h : Ok s) {x : Sl} (hx : x ∈ s.slots) : 1 ≤ x.num ∧ x.num < 10000 := by
  have := h.each hx
  have h2 : s.next ≤ 10000 := h.st.n2
  omega
theorem may_one {s u : Bx.St} {k n : Int} (hk : k = 83 ∨ k = 68 ∨ k = 70 ∨ k = 75) (h1 : 1 ≤ n) (h2 : n < 10000) (h : Bx.aboutP s k n = (u, true)) {L : List Bx.Ch} (hl : Bx.May u L) : Bx.May s (⟨k, { data := #[] }, n⟩ :: L) ∧ Bx.told s (⟨k, { data := #[] }, n⟩ :: L) = Bx.told u L := by
  have e : Bx.doP s ⟨k, { data := #[] }, n⟩ = (u, true) := by rw [do_about _ _ _ _ (by omega) (by omega), h]
  have e2 : (Bx.doP s ⟨k, { data := #[] }, n⟩).2 = true := by rw [e]
  refine ⟨Bx.May.cons (fit_num hk h1 h2) e2 (by rw [e]; exact hl), ?_⟩
  rw [Bx.told_cons e2, e]
theorem fails_may (ns : List Int) : ∀ (s : St), Ok s → (∀ n ∈ ns, ∃ x ∈ s.slots, x.num = n ∧ 0 < x.step) → ns.Pairwise (· ≠ ·) → Bx.May (abs s) (ns.map chF) := by
  induction ns with
  | nil => intro s _ _ _; exact Bx.May.nil _
  | cons n r ih =>
    intro s h hall hp
    obtain ⟨x, hx, hxn, hxs⟩ := hall n (by simp)
    have hF : find s.slots n = some x := by rw [← hxn]; exact find_mem h.dist hx
    have h0 : (failP s n).2 = 0 := by
      unfold failP; rw [hF]; simp only
      rw [if_neg (by omega)]; split <;> rfl
    obtain ⟨o1, o2, o3⟩ := fail_other n h0
    have hp' := List.pairwise_cons.1 hp
    have hr := ih (failP s n).1 (fail_ok h n h0) (fun k hk => by
      obtain ⟨y, hy, hyn, hys⟩ := hall k (by simp [hk])
      exact ⟨y, o3 y hy (by rw [hyn]; exact fun e => hp'.1 k hk e.symm), hyn, hys⟩) hp'.2
    have hnum := h.num hx
    rw [hxn] at hnum
    rcases fail_abs h.dist n h.num1 h.att with ⟨q, _⟩ | ⟨q, _⟩ | ⟨_, q⟩
    · omega
    · omega
    · exact (may_one (Or.inr (Or.inr (Or.inl rfl))) hnum.1 hnum.2 q hr).1
theorem tick_late {s : St} (h : Ok s) {m : Int} (h0 : (clockP s m).2 = 0) : Ok (clockP s m).1 ∧ (∀ n ∈ late (clockP s m).1, ∃ x ∈ (clockP s m).1.slots, x.num = n ∧ 0 < x.step) ∧ (late (clockP s m).1).Pairwise (· ≠ ·) := by
  have hk := clock_ok h h0
  refine ⟨hk, ?_, Rise.nums hk.rise _⟩
  intro n hn
  obtain ⟨x, hx, rfl⟩ := List.mem_map.1 hn
  obtain ⟨hx1, hx2⟩ := List.mem_filter.1 hx
  refine ⟨x, hx1, rfl, ?_⟩
  simp at hx2; exact hx2.1
theorem tick_adv {b : Bo} (h : Ok b.st) (m : Int) : (¬ (tickB b m).2.2 = 0 ∧ (tickB b m).1 = b ∧ (tickB b m).2.1 = 0) ∨
    ((tickB b m).2.2 = 0 ∧ (clockP b.st m).2 = 0 ∧ Adv b (tickB b m).1 (chCl m :: (late (clockP b.st m).1).map chF)) := by
  unfold tickB
  by_cases h0 : (clockP b.st m).2 = 0
  rotate_left
  · rw [if_pos h0]; exact Or.inl ⟨h0, rfl, rfl⟩
  rw [if_neg (by simpa using h0)]
  by_cases hr : b.room < (b.log.size : Int) + (tickQ b m).2.size
  · rw [if_pos hr]; exact Or.inl ⟨by simp, rfl, rfl⟩
  rw [if_neg hr]
  refine Or.inr ⟨rfl, h0, ?_⟩
  obtain ⟨hk, hall, hpw⟩ := tick_late h h0
  obtain ⟨f1, f2, f3, f4, f5⟩ := fails_rel (late (clockP b.st m).1) (clockP b.st m).1 (Bx.frame (Bx.body (chCl m))) hk hall hpw
  have hcl := clock_abs b.st m h0
  obtain ⟨m0, m1, _⟩ := clock_st h0
  have hd : Bx.doP (abs b.st) (chCl m) = (abs (clockP b.st m).1, true) := by
    unfold Bx.doP
    rw [if_neg (show ¬ (chCl m).kind = 84 by show ¬ (67 : Int) = 84; omega), if_pos (show (chCl m).kind = 67 from rfl)]
    exact hcl
  have hfr : (tickQ b m).2 = Bx.frames (chCl m :: (late (clockP b.st m).1).map chF) := by rw [frames_fold]; exact f2
  refine ⟨by rw [← hfr], ?_, ?_, ⟨rfl, rfl⟩, ?_⟩
  · rw [Bx.told_cons (by rw [hd]), hd]
    exact f1.symm
  · exact Bx.May.cons (Or.inr (Or.inl ⟨rfl, rfl, m0, by show m < 1099511627776; omega⟩)) (by rw [hd]) (by rw [hd]; exact fails_may _ _ hk hall hpw)
  · show ((b.log ++ (tickQ b m).2).size : Int) ≤ b.room
    rw [ByteArray.size_append]; omega
theorem goF_like (L : List ByteArray) (c : Int) (n : Nat) : ∀ x : Sl, Like x (goF L c n x).1 ∧ (0 < x.step → 0 < (goF L c n x).1.step) := by
  induction n with
  | zero => intro x; exact ⟨Like.refl x, fun h => h⟩
  | succ n ih =>
    intro x
    rw [goF]
    split
    · exact ⟨Like.refl x, fun h => h⟩
    · split
      · obtain ⟨h1, h2⟩ := ih { x with step := x.step + 1 }
        exact ⟨h1, fun h => h2 (by show 0 < x.step + 1; omega)⟩
      · split
        · exact ⟨⟨rfl, rfl, rfl, rfl, rfl⟩, fun h => h⟩
        · obtain ⟨h1, h2⟩ := ih { x with step := x.step + 1, heard := behS x.heard (wordAt L (x.step - 1).toNat), ans := c }
          exact ⟨h1, fun h => h2 (by show 0 < x.step + 1; omega)⟩
theorem Like.abs {x y : Sl} (h : Like x y) (h1 : 0 < x.step) (h2 : 0 < y.step) : absS y = absS x := by
  obtain ⟨a, b, c, d, e⟩ := h
  unfold absS
  rw [a, b, c, d, e, decide_eq_true h1, decide_eq_true h2]
theorem talk_adv {b : Bo} {s : St} (h : Ok s) {L : List Bx.Ch} (hs : abs s = Bx.told (abs b.st) L) (hm : Bx.May (abs b.st) L) (n : Int) (x fr : ByteArray) (hf : fr = Bx.frames L) :
    (¬ (talkB b s n x fr).2.2 = 0 ∧ (talkB b s n x fr).1 = b ∧ (talkB b s n x fr).2.1 = ByteArray.empty) ∨ ((talkB b s n x fr).2.2 = 0 ∧ (Adv b (talkB b s n x fr).1 L ∨ Adv b (talkB b s n x fr).1 (L ++ [chD n]))) := by
  unfold talkB
  cases hF : find s.slots n with
  | none => exact Or.inl ⟨by simp, rfl, rfl⟩
  | some y =>
    obtain ⟨i, hi, hyi, hyn, hFd⟩ := find_some h.dist hF
    have hy : y ∈ s.slots := by rw [← hyi]; exact List.getElem_mem hi
    simp only
    by_cases h0 : y.step ≤ 0
    · rw [if_pos h0]; exact Or.inl ⟨by simp, rfl, rfl⟩
    rw [if_neg h0]
    obtain ⟨g1, g2⟩ := goF_like (stepsL s y) s.clock ((stepsL s y).length + 1) (heardS y x)
    have hX : (talkS s y x).1.num = n := by rw [← hyn]; exact g1.1
    have hXs : 0 < (talkS s y x).1.step := g2 (by show 0 < y.step; omega)
    have hL : Like y (talkS s y x).1 := g1
    have habs : absS (talkS s y x).1 = absS y := hL.abs (by omega) hXs
    have hrepl : abs (talkT s y x) = abs s := repl_abs s h.dist hy habs
    by_cases hd : ((stepsL s y).length : Int) < (talkS s y x).1.step
    · rw [if_pos hd]
      have e : doneP (talkT s y x) n = (ended s n Bx.hD, 0) := done_talk hy hyn hX hXs
      rw [e]
      simp only
      rw [if_neg (by simp)]
      unfold commitB
      by_cases hr : b.room < (b.log.size : Int) + (fr ++ Bx.frame (Bx.body (chD n))).size
      · rw [if_pos hr]; exact Or.inl ⟨by simp, rfl, rfl⟩
      rw [if_neg hr]
      refine Or.inr ⟨rfl, Or.inr ?_⟩
      have hfr : fr ++ Bx.frame (Bx.body (chD n)) = Bx.frames (L ++ [chD n]) := by rw [Bx.frames_snoc, hf]
      have hnum := h.num hy
      rw [hyn] at hnum
      have hdn : (doneP s n).2 = 0 ∧ (doneP s n).1 = ended s n Bx.hD := by
        unfold doneP; rw [hF]; simp only; rw [if_neg h0]; exact ⟨rfl, rfl⟩
      have hab : Bx.aboutP (abs s) 68 n = (abs (ended s n Bx.hD), true) := by
        rcases done_abs h.dist n h.num1 with ⟨q, _⟩ | ⟨q, _⟩ | ⟨_, q⟩
        · omega
        · omega
        · rw [hdn.2] at q; exact q
      obtain ⟨k1, k2⟩ := may_one (Or.inr (Or.inl rfl)) hnum.1 hnum.2 hab (Bx.May.nil _)
      refine ⟨by rw [← hfr], ?_, hm.app (by rw [← hs]; exact k1), ⟨rfl, rfl⟩, ?_⟩
      · show abs (ended s n Bx.hD) = _
        unfold Bx.told at hs ⊢
        rw [List.foldl_append, ← hs]
        exact k2.symm
      · show ((b.log ++ (fr ++ Bx.frame (Bx.body (chD n)))).size : Int) ≤ b.room
        rw [ByteArray.size_append]; omega
    · rw [if_neg hd]
      unfold commitB
      by_cases hr : b.room < (b.log.size : Int) + fr.size
      · rw [if_pos hr]; exact Or.inl ⟨by simp, rfl, rfl⟩
      rw [if_neg hr]
      refine Or.inr ⟨rfl, Or.inl ⟨by rw [← hf], ?_, hm, ⟨rfl, rfl⟩, ?_⟩⟩
      · show abs (talkT s y x) = _
        rw [hrepl, hs]
      · show ((b.log ++ fr).size : Int) ≤ b.room
        rw [ByteArray.size_append]; omega
theorem feed_adv {b : Bo} (h : Ok b.st) (n : Int) (x : ByteArray) :
    (¬ (feedB b n x).2.2 = 0 ∧ (feedB b n x).1 = b ∧ (feedB b n x).2.1 = ByteArray.empty) ∨ ((feedB b n x).2.2 = 0 ∧ (Adv b (feedB b n x).1 [] ∨ Adv b (feedB b n x).1 [chD n])) := by
  unfold feedB
  by_cases h40 : 40 < x.size
  · rw [if_pos h40]; exact Or.inl ⟨by simp, rfl, rfl⟩
  rw [if_neg h40]
  exact talk_adv h (L := []) rfl (Bx.May.nil _) n x ByteArray.empty rfl
theorem start_adv {b : Bo} (h : Ok b.st) (n : Int) (hs : (startP b.st n).2 = 0 → Ok (startP b.st n).1) :
    (¬ (startB b n).2.2 = 0 ∧ (startB b n).1 = b ∧ (startB b n).2.1 = ByteArray.empty) ∨ ((startB b n).2.2 = 0 ∧ ((runs (startP b.st n).1 : Nat) : Int) ≤ b.limit ∧ (Adv b (startB b n).1 [chS n] ∨ Adv b (startB b n).1 [chS n, chD n])) := by
  unfold startB
  by_cases h0 : (startP b.st n).2 = 0
  rotate_left
  · rw [if_pos h0]; exact Or.inl ⟨h0, rfl, rfl⟩
  rw [if_neg (by simpa using h0)]
  by_cases hl : b.limit < ((runs (startP b.st n).1 : Nat) : Int)
  · rw [if_pos hl]; exact Or.inl ⟨by simp, rfl, rfl⟩
  rw [if_neg hl]
  have hk : ∃ i : Nat, ∃ hi : i < b.st.slots.length, b.st.slots[i].num = n ∧ Bx.aboutP (abs b.st) 83 n = (abs (startP b.st n).1, true) := by
    rcases start_abs h.dist n with ⟨q, _⟩ | ⟨i, hi, _, hn, q⟩
    · omega
    · rcases q with ⟨q, _⟩ | ⟨q, _⟩ | ⟨q, _⟩ | ⟨_, _, _, _, _, q⟩
      · omega
      · omega
      · omega
      · exact ⟨i, hi, hn, q⟩
  obtain ⟨i, hi, hn, hab⟩ := hk
  have hnum := h.num (List.getElem_mem hi)
  rw [hn] at hnum
  obtain ⟨k1, k2⟩ := may_one (Or.inl rfl) hnum.1 hnum.2 hab (Bx.May.nil _)
  rcases talk_adv (b := b) (hs h0) (L := [chS n]) k2.symm k1 n ByteArray.empty (Bx.frame (Bx.body (chS n))) (frames_one _).symm with q | ⟨q1, q2⟩
  · exact Or.inl q
  · exact Or.inr ⟨q1, by omega, q2⟩
theorem cancel_adv {b : Bo} (h : Ok b.st) (n : Int) : (¬ (cancelB b n).2 = 0 ∧ (cancelB b n).1 = b) ∨ ((cancelB b n).2 = 0 ∧ Adv b (cancelB b n).1 [chK n]) := by
  unfold cancelB
  by_cases h0 : (cancelP b.st n).2 = 0
  rotate_left
  · rw [if_pos h0]; exact Or.inl ⟨h0, rfl⟩
  rw [if_neg (by simpa using h0)]
  by_cases hr : b.room < (b.log.size : Int) + (Bx.frames [chK n]).size
  · rw [if_pos hr]; exact Or.inl ⟨by simp, rfl⟩
  rw [if_neg hr]
  refine Or.inr ⟨rfl, ?_⟩
  have hx : ∃ x ∈ b.st.slots, x.num = n := by
    unfold cancelP at h0
    cases q : find b.st.slots n with
    | none => rw [q] at h0; cases h0
    | some x => exact ⟨x, List.mem_of_find?_eq_some q, by simpa using List.find?_some q⟩
  obtain ⟨x, hx, hxn⟩ := hx
  have hnum := h.num hx
  rw [hxn] at hnum
  rcases cancel_abs h.dist n h.num1 with ⟨q, _⟩ | ⟨_, q⟩
  · omega
  · obtain ⟨k1, k2⟩ := may_one (Or.inr (Or.inr (Or.inr rfl))) hnum.1 hnum.2 q (Bx.May.nil _)
    refine ⟨rfl, k2.symm, k1, ⟨rfl, rfl⟩, ?_⟩
    show ((b.log ++ Bx.frames [chK n]).size : Int) ≤ b.room
    rw [ByteArray.size_append]; omega
theorem load_adv {b b' : Bo} {tab : ByteArray} {a r : Int} (h : LoadB b tab b' a r) : (¬ r = 0 ∧ b' = b) ∨ (r = 0 ∧ a = 0 ∧ b.st.slots.length = 0 ∧ b'.st = { b.st with tab := tab } ∧ Adv b b' [chT tab]) := by
  rcases h with ⟨h1, _, rfl⟩ | ⟨_, _, rfl, _, rfl⟩ | ⟨_, _, _, rfl, _, rfl⟩ | ⟨hc, hz, hr, rfl, rfl, rfl⟩
  · exact Or.inl ⟨h1, rfl⟩
  · exact Or.inl ⟨by decide, rfl⟩
  · exact Or.inl ⟨by decide, rfl⟩
  · refine Or.inr ⟨rfl, rfl, hz, rfl, ?_⟩
    have hz' : (abs b.st).slots.length = 0 := by simp [abs, hz]
    have e : Bx.doP (abs b.st) (chT tab) = ({ abs b.st with tab := tab }, true) := by
      unfold Bx.doP
      rw [if_pos (show (chT tab).kind = 84 from rfl), if_pos ⟨hc, hz'⟩]; rfl
    refine ⟨rfl, ?_, Bx.May.cons (Or.inl ⟨rfl, rfl⟩) (by rw [e]) (Bx.May.nil _), ⟨rfl, rfl⟩, ?_⟩
    · rw [Bx.told_cons (by rw [e]), e]; rfl
    · show ((b.log ++ Bx.frames [chT tab]).size : Int) ≤ b.room
      rw [ByteArray.size_append]; omega
end Px
end Go.Proofs.YtdajolpoiffimabDoor

namespace Go.Proofs.YtdajolpoiffimabDoor
namespace Px
theorem Rel.new {l r : Int} (h : mayB l r = true) : Rel ⟨l, r, first, ByteArray.empty⟩ ⟨l, r, Bx.first, ByteArray.empty, []⟩ := by
  obtain ⟨h1, h2, h3, h4⟩ := of_decide_eq_true h
  refine ⟨rfl, rfl, rfl, rfl, ⟨List.Pairwise.nil, fun t ht => by simp at ht, fun x hx => by simp [first] at hx⟩, ⟨Bx.first_ok, List.Pairwise.nil, fun x hx => by simp [first] at hx⟩, h1, h2, h3, h4, ?_⟩
  show ((0 : Nat) : Int) ≤ r; omega
theorem fsz (c : Bx.Ch) : (Bx.frame (Bx.body c)).size ≤ c.tab.size + 12 := by rw [Bx.frame_size]; have := Bx.body_size c; omega
/-- Load of a crontab, where there is no slot and there is room. -/
theorem load_yes {b b' : Bo} {tab : ByteArray} {a r : Int} (h : LoadB b tab b' a r) (hc : ChkR tab 0 0) (hs : b.st.slots = []) (hr : (b.log.size : Int) + tab.size + 12 ≤ b.room) :
    a = 0 ∧ r = 0 ∧ b' = { b with st := { b.st with tab := tab }, log := b.log ++ Bx.frames [chT tab] } := by
  have hf : (Bx.frames [chT tab]).size ≤ tab.size + 12 := by rw [frames_one]; exact fsz _
  rcases h with ⟨h1, h2, _⟩ | ⟨_, h2, _⟩ | ⟨_, _, h3, _⟩ | ⟨_, _, _, h4, h5, h6⟩
  · exact absurd (ChkR.uniq h2 hc).2 h1
  · rw [hs] at h2; simp at h2
  · omega
  · exact ⟨h5, h6, h4⟩
/-- What Tick does, where nothing is late. -/
theorem tick_yes {b : Bo} {m : Int} {s : St} (h0 : clockP b.st m = (s, 0)) (hl : late s = []) (hr : (b.log.size : Int) + 12 ≤ b.room) :
    tickB b m = ({ b with st := s, log := b.log ++ Bx.frame (Bx.body (chCl m)) }, s.next - b.st.next, 0) := by
  have hf : (Bx.frame (Bx.body (chCl m))).size ≤ 0 + 12 := fsz _
  have hq : tickQ b m = (s, Bx.frame (Bx.body (chCl m))) := by unfold tickQ; rw [h0, hl]; rfl
  unfold tickB
  rw [h0, hq, if_neg (by simp), if_neg (by simp only; omega)]
/-- What Tick does, where one slot is late. -/
theorem tick_one {b : Bo} {m n : Int} {s t : St} (h0 : clockP b.st m = (s, 0)) (hl : late s = [n]) (hf : failP s n = (t, 0)) (hr : (b.log.size : Int) + 24 ≤ b.room) :
    tickB b m = ({ b with st := t, log := b.log ++ (Bx.frame (Bx.body (chCl m)) ++ Bx.frame (Bx.body (chF n))) }, s.next - b.st.next, 0) := by
  have hf1 : (Bx.frame (Bx.body (chCl m))).size ≤ 0 + 12 := fsz _
  have hf2 : (Bx.frame (Bx.body (chF n))).size ≤ 0 + 12 := fsz _
  have hq : tickQ b m = (t, Bx.frame (Bx.body (chCl m)) ++ Bx.frame (Bx.body (chF n))) := by
    unfold tickQ; rw [h0, hl, List.foldl_cons, List.foldl_nil]; unfold failStep; rw [hf]; rfl
  unfold tickB
  rw [h0, hq, if_neg (by simp), if_neg (by simp only [ByteArray.size_append]; omega)]
/-- The clock, where nothing comes; where one does. -/
theorem clock_none {s : St} {m : Int} (h1 : 0 ≤ m) (h2 : m ≤ 4223371679) (ha : aheadP s m = true) (hn : s.next ≤ 10000) (hc : comesP s m = []) : clockP s m = ({ s with clock := m }, 0) := by
  have e := (clock_err' s m).2.2 (by omega) ha
  rw [e, hc, if_neg (by simp; omega)]; rfl
theorem clock_one {s : St} {m : Int} {p : Nat × Int} (h1 : 0 ≤ m) (h2 : m ≤ 4223371679) (ha : aheadP s m = true) (hn : s.next + 1 ≤ 10000) (hl : s.slots.length < 8) (hc : comesP s m = [p]) :
    clockP s m = ({ s with slots := s.slots ++ [slotOf p s.next], next := s.next + 1, clock := m }, 0) := by
  have e := (clock_err' s m).2.2 (by omega) ha
  rw [e, hc, if_neg (by simp; omega)]
  simp only [List.foldl_cons, List.foldl_nil, arr]
  rw [if_neg (by omega)]
/-- One line, which is due at no minute, or at the last one alone. -/
theorem comes_none {ls : List Bx.Ln} {a m : Int} (h : ∀ l ∈ ls, ∀ t, a ≤ t → t ≤ m → l.due t = false) : Bx.comes ls a m = [] := by
  have hR : Bx.ComesR ls a m [] := ⟨List.Pairwise.nil, fun i u => ⟨fun q => by simp at q, fun ⟨hi, q1, q2, q3⟩ => by
    have := h _ (List.getElem_mem hi) u q1 q2
    rw [q3.1] at this; cases this⟩⟩
  exact (Bx.comes_ok ls a m).uniq hR
theorem comes_at {l : Bx.Ln} {m : Int} (h : l.due m = true) : Bx.comes [l] m m = [(0, m)] := by
  have hR : Bx.ComesR [l] m m [(0, m)] := by
    refine ⟨by simp, fun i u => ⟨fun q => ?_, fun ⟨hi, q1, q2, q3⟩ => ?_⟩⟩
    · obtain ⟨rfl, rfl⟩ : i = 0 ∧ u = m := by simpa using q
      exact ⟨by simp, Int.le_refl _, Int.le_refl _, h, fun _ => rfl, fun _ v h1 h2 => by omega⟩
    · have : i = 0 := by simp at hi; omega
      have : u = m := by omega
      subst this; simp [*]
  exact (Bx.comes_ok [l] m m).uniq hR
end Px
end Go.Proofs.YtdajolpoiffimabDoor
