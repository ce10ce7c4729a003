/-
  KSurv.
-/
import Derived.Test.YtdajolpoiffimabGreatDoorC10
import Derived.Test.YtdajolpoiffimabGreatDoorC11
import Derived.Test.YtdajolpoiffimabGreatDoorC13
import Derived.Test.YtdajolpoiffimabGreatDoorV1

namespace Go.Proofs.YtdajolpoiffimabGreatDoor
open Go.RowKit

/-- What Survives has in memory behind the last call. -/
structure Sv (W w : World) (P B qs qa qz : Nat) (k n : Int) (s : ByteArray) (l r : Int) (t : ByteArray) (c g : Int) (b : Px.Bo) (x : Kp.Sn) (A A2 : Value) (y : Kp.Sn) (C C2 : Value) : Prop where
  st : Cl w qs 26 [.int .i64 k, .int .i64 n, .string s]
  kw : KW W w P B l r t c g b
  ca : Cl w qa 40 (snC x A A2)
  sa : SnAt w x A A2
  cz : Cl w qz 40 (snC y C C2)
  sz : SnAt w y C C2
theorem Sv.later {W w w' : World} {P B qs qa qz : Nat} {k n : Int} {s : ByteArray} {l r : Int} {t : ByteArray} {c g : Int} {b : Px.Bo} {x : Kp.Sn} {A A2 : Value} {y : Kp.Sn} {C C2 : Value} (h : Sv W w P B qs qa qz k n s l r t c g b x A A2 y C C2) (hb : Below w.heap.size w w') : Sv W w' P B qs qa qz k n s l r t c g b x A A2 y C C2 :=
  ⟨h.st.later hb, h.kw.later hb, h.ca.later hb, h.sa.later hb, h.cz.later hb, h.sz.later hb⟩
theorem sn_lens {b : Px.Bo} {l r : Int} {t : ByteArray} {c g : Int} (h : Px.KI b l r t c g) : (Kp.snOf b.st).slots.length ≤ 10000 ∧ (Kp.snOf b.st).ends.length ≤ 10000 := by
  have h1 : b.st.slots.length ≤ 8 := h.ok.len
  have h2 : b.st.ends.length ≤ 6 := h.ok.st.en
  have e : (Kp.snOf b.st).slots.length = b.st.slots.length := by simp [Kp.snOf]
  refine ⟨by omega, ?_⟩
  show b.st.ends.length ≤ 10000
  omega
theorem int_lens (x : Kp.Sn) : (Kp.intT x).slots.length = x.slots.length ∧ (Kp.intT x).ends.length = x.ends.length := by simp [Kp.intT]
theorem mayS_lens {s : Bx.St} (h : Bx.MayS s) : (Kp.snB s).slots.length ≤ 10000 ∧ (Kp.snB s).ends.length ≤ 10000 := by
  have h1 := h.sl
  have h2 := h.en
  have e : (Kp.snB s).slots.length = s.slots.length := by simp [Kp.snB]
  refine ⟨by omega, ?_⟩
  show s.ends.length ≤ 10000
  omega
set_option maxRecDepth 10000 in
set_option maxHeartbeats 16000000 in
theorem kSurvives_any (a0 a1 a2 a3 : Int) (L : List (Int × Int × ByteArray)) (kv : Value) (kd n : Int) (s : ByteArray) (cut : Int) (w : World) (h0 : I64 a0) (h1 : I64 a1) (h2 : I64 a2) (h3 : I64 a3) (hT : TT w) (hK : KScrAt w kv L) (hKl : L.length ≤ 9223372036854775807) (hKb : ∀ s ∈ L, I64 s.2.1 ∧ s.2.2.size ≤ maxLen) (hn : I64 n) (hsz : s.size ≤ maxLen) (hcut : I64 cut) :
    Calls Tryz.prog 3 #[suV a0 a1 a2 a3, kv, skV kd n s, .int .i64 cut] w fun e w' => e = .returned (.bool true) ∧ Below w.heap.size w w' := by
  obtain ⟨kad, kcap, rfl, hkc⟩ := hK.form
  have hb0 := (below_alloc w (suO a0 a1 a2 a3)).alloc (by simp) (skO kd n s)
  have hs := (Cl.new w [.int .i64 a0, .int .i64 a1, .int .i64 a2, .int .i64 a3] 23).later (below_alloc _ (skO kd n s))
  have ho := Cl.new (w.alloc (suO a0 a1 a2 a3)) [.int .i64 kd, .int .i64 n, .string s] 26
  have hsz1 : (w.alloc (suO a0 a1 a2 a3)).heap.size = w.heap.size + 1 := by simp
  rw [hsz1] at ho
  clear hsz1
  have HKb : Hid (∀ s ∈ L, I64 s.2.1 ∧ s.2.2.size ≤ maxLen) := hKb
  have HI : Hid (I64 a0 ∧ I64 a1 ∧ I64 a2 ∧ I64 a3) := ⟨h0, h1, h2, h3⟩
  have HN : Hid (I64 n ∧ s.size ≤ maxLen ∧ I64 cut) := ⟨hn, hsz, hcut⟩
  have HT : Hid (TT ((w.alloc (suO a0 a1 a2 a3)).alloc (skO kd n s))) := hT.later hb0
  have HK : Hid (KScrAt ((w.alloc (suO a0 a1 a2 a3)).alloc (skO kd n s)) (.slice kad L.length kcap) L) := hK.later hb0
  clear h0 h1 h2 h3 hT hK hKb hn hsz hcut
  go_enter Tryz.func3, Tryz.ntmps3
  go_upto_region 1 with fail
  have hs' : Cl ((w.alloc (suO a0 a1 a2 a3)).alloc (skO kd n s)) w.heap.size 23 [.int .i64 a0, .int .i64 a1, .int .i64 a2, .int .i64 a3] := hs
  have ho' : Cl ((w.alloc (suO a0 a1 a2 a3)).alloc (skO kd n s)) (w.heap.size + 1) 26 [.int .i64 kd, .int .i64 n, .string s] := ho
  clear hs ho
  generalize ((w.alloc (suO a0 a1 a2 a3)).alloc (skO kd n s)) = W at *
  have HB0 : Hid (Below w.heap.size w W) := hb0
  have HO : Hid (Cl W (w.heap.size + 1) 26 [.int .i64 kd, .int .i64 n, .string s]) := ho'
  have s0 : W.cell? ⟨w.heap.size, 0, none⟩ = some (.int .i64 a0) := hs'.c 0 _ rfl
  have s1 : W.cell? ⟨w.heap.size, 1, none⟩ = some (.int .i64 a1) := hs'.c 1 _ rfl
  have s2 : W.cell? ⟨w.heap.size, 2, none⟩ = some (.int .i64 a2) := hs'.c 2 _ rfl
  have s3 : W.cell? ⟨w.heap.size, 3, none⟩ = some (.int .i64 a3) := hs'.c 3 _ rfl
  have hqs := hs'.ty.lt
  clear hs' ho' hb0
  go_wp2_with fail
  refine (kbegun_any a0 a1 a2 a3 W HI.out.1 HI.out.2.1 HI.out.2.2.1 HI.out.2.2.2 HT.out).mono ?_
  rintro e w1 ⟨P, B, rfl, hW⟩
  have hM := s_may a0 a1
  have hm := (sT_mem a2).1
  have hc := pk_bd a3 4223371680 (by decide)
  have hc' : 0 ≤ sC a3 ∧ sC a3 ≤ 4223371679 := by unfold sC; omega
  generalize sL a0 = l at *
  generalize sR a1 = r at *
  generalize sT a2 = t at *
  generalize sC a3 = c at *
  have hki := (beg_ki hM hm hc'.1 hc'.2).2.2.2
  generalize begG l r t c = g at *
  generalize begB l r t c = b at *
  have HS : Hid (0 ≤ c ∧ c ≤ 4223371679 ∧ Px.KI b l r t c g ∧ KW W w1 P B l r t c g b) := ⟨hc'.1, hc'.2, hki, hW⟩
  clear hM hm hc hc' hki hW s0 s1 s2 s3 hqs
  go_wp2_with fail
  go_loopw [10, 11] (fun o i wr => ∃ (k B : Nat) (c g : Int) (b : Px.Bo), k ≤ L.length ∧ o = .bool true ∧ i = .int .i64 k ∧ 0 ≤ c ∧ c ≤ 4223371679 ∧ Px.KI b l r t c g ∧ KW W wr P B l r t c g b) (fun _ i _ => L.length - (intOf i).toNat)
  case atStart => exact ⟨0, B, c, g, b, Nat.zero_le _, rfl, rfl, HS.out⟩
  case round =>
    clear HS
    obtain ⟨k, B, c, g, b, hk, rfl, rfl, c0, c1, hKI, hW⟩ := hrel
    have HKI : Hid (Px.KI b l r t c g) := hKI
    have HW : Hid (KW W wr P B l r t c g b) := hW
    clear hKI hW
    by_cases hlt : k < L.length
    · obtain ⟨kb, koff, kcap2, hkv, d0, d1, d2⟩ := kscr_at (HK.out.later HW.out.bl) hlt
      cases hkv
      have b1 : (0 : Int) ≤ (k : Int) := by omega
      have b2 : (k : Int) < (L.length : Int) := by omega
      have HSt := HKb.out L[k] (List.getElem_mem hlt)
      generalize L[k] = st at *
      obtain ⟨ke, m, u⟩ := st
      have HSt' : Hid (I64 m ∧ u.size ≤ maxLen) := HSt
      have d0' : wr.cell? ⟨kb, koff + k * 3, none⟩ = some (.int .i64 ke) := d0
      have d1' : wr.cell? ⟨kb, koff + k * 3 + 1, none⟩ = some (.int .i64 m) := d1
      have d2' : wr.cell? ⟨kb, koff + k * 3 + 2, none⟩ = some (.string u) := d2
      clear d0 d1 d2 HSt
      go_wp2_with fail
      refine (kstep_any ke m u W wr P B l r t c g b HSt'.out.1 HSt'.out.2 c0 c1 HT.out HKI.out HW.out).mono ?_
      rintro e w5 ⟨rfl, B', hW5, _, _⟩
      have HK5 : Hid _ := KI.step HKI.out ke m u c0 c1
      generalize stp l r ke m u c g b = q at *
      obtain ⟨c', g', b'⟩ := q
      have HW5 : Hid (KW W w5 P B' l r t c' g' b') := hW5
      clear hW5 d0' d1' d2'
      go_wp2_with fail
      go_roundw
      case rel => exact ⟨k + 1, B', c', g', b', by omega, rfl, by go_num, HK5.out.2.1, HK5.out.2.2, HK5.out.1, HW5.out⟩
      case measure => simp [intOf]; omega
    · have b2' : ¬ (k : Int) < (L.length : Int) := by omega
      have HOr : Hid (Cl wr (w.heap.size + 1) 26 [.int .i64 kd, .int .i64 n, .string s]) := HO.out.later HW.out.bl
      have o0 : wr.cell? ⟨w.heap.size + 1, 0, none⟩ = some (.int .i64 kd) := HOr.out.c 0 _ rfl
      have hol := HOr.out.ty.lt
      have HBw : Hid (Below w.heap.size w wr) := HB0.out.trans (HW.out.bl.mono HB0.out.size)
      by_cases h6 : kd = 6
      · subst h6
        go_wp2_with fail
        go_ret
        exact ⟨rfl, HBw.out⟩
      · have p0 : wr.cell? ⟨P, 0, none⟩ = some (.pointer (some ⟨B, 0, none⟩)) := HW.out.p.c 0 _ rfl
        have hpl := HW.out.p.ty.lt
        go_wp2_with fail
        refine (klog_any b B W _ HW.out.b).mono ?_
        rintro e w2 ⟨rfl, h2⟩
        have h3 := h2.symm
        subst h3
        clear h2
        go_wp2_with fail
        refine (ksnap_any b B wr HKI.out.ok HW.out.b.pb).mono ?_
        obtain ⟨x, hx⟩ : ∃ x, x = Kp.snOf b.st := ⟨_, rfl⟩
        have HX : Hid (x = Kp.snOf b.st) := hx
        rw [← hx]
        clear hx
        rintro e w2 ⟨⟨sl, en, rfl, hA⟩, hb2⟩
        obtain ⟨ad, cap, rfl, hcap⟩ := hA.sl.form
        obtain ⟨ad2, cap2, rfl, hcap2⟩ := hA.en.form
        have hb3 := hb2.trans ((below_alloc w2 (snO x (.slice ad x.slots.length cap) (.slice ad2 x.ends.length cap2))).mono hb2.size)
        have hI := Cl.new w2 (snC x (.slice ad x.slots.length cap) (.slice ad2 x.ends.length cap2)) 40
        have hA3 := hA.later (below_alloc w2 (snO x (.slice ad x.slots.length cap) (.slice ad2 x.ends.length cap2)))
        clear hA hb2 p0 o0
        go_upto_region 10 with fail
        have hI' : Cl (w2.alloc (snO x (.slice ad x.slots.length cap) (.slice ad2 x.ends.length cap2))) w2.heap.size 40 (snC x (.slice ad x.slots.length cap) (.slice ad2 x.ends.length cap2)) := hI
        clear hI
        generalize w2.alloc (snO x (.slice ad x.slots.length cap) (.slice ad2 x.ends.length cap2)) = W3 at *
        generalize w2.heap.size = qa at *
        have HW3 : Hid (KW W W3 P B l r t c g b) := HW.out.later hb3
        have HO3 : Hid (Cl W3 (w.heap.size + 1) 26 [.int .i64 kd, .int .i64 n, .string s]) := HOr.out.later hb3
        have HA3 : Hid (SnAt W3 x (.slice ad x.slots.length cap) (.slice ad2 x.ends.length cap2)) := hA3
        have HC3 : Hid (Cl W3 qa 40 (snC x (.slice ad x.slots.length cap) (.slice ad2 x.ends.length cap2))) := hI'
        have o0 := HO3.out.c 0 _ rfl
        have o1 := HO3.out.c 1 _ rfl
        have o2 := HO3.out.c 2 _ rfl
        have hol3 := HO3.out.ty.lt
        clear hI' hA3 hb3 HW HOr hol hpl HBw
        go_wp2_with fail
        refine (kstep_any kd n s W W3 P B l r t c g b HN.out.1 HN.out.2.1 c0 c1 HT.out HKI.out HW3.out).mono ?_
        rintro e w5 ⟨rfl, B2, hW5, hF5, _⟩
        have HK5 : Hid _ := KI.step HKI.out kd n s c0 c1
        have HSu : Hid (¬ kd = 5 → Kp.Sur b (stp l r kd n s c g b).2.2) := fun h5 => Sur.step HKI.out kd n s h5 h6
        have HCo : Hid (kd = 5 → (stp l r kd n s c g b).2.2 = Px.compB b) := fun h5 => by subst h5; rfl
        generalize stp l r kd n s c g b = q at *
        obtain ⟨c2, g2, b2⟩ := q
        have HW5 : Hid (KW W w5 P B2 l r t c2 g2 b2) := hW5
        have HKI2 : Hid (Px.KI b2 l r t c2 g2) := HK5.out.1
        have HSur : Hid (¬ kd = 5 → Kp.Sur b b2) := HSu.out
        have HCmp : Hid (kd = 5 → b2 = Px.compB b) := HCo.out
        have HA5 : Hid (SnAt w5 x (.slice ad x.slots.length cap) (.slice ad2 x.ends.length cap2)) := HA3.out.far2 hF5 HW3.out.p.ty HW3.out.b.typ
        have HC5 : Hid (Cl w5 qa 40 (snC x (.slice ad x.slots.length cap) (.slice ad2 x.ends.length cap2))) := HC3.out.far2 hF5 (typed_ne HC3.out.ty HW3.out.p.ty (by decide)) (typed_ne HC3.out.ty HW3.out.b.typ (by decide))
        have HO5 : Hid (Cl w5 (w.heap.size + 1) 26 [.int .i64 kd, .int .i64 n, .string s]) := HO3.out.far2 hF5 (typed_ne HO3.out.ty HW3.out.p.ty (by decide)) (typed_ne HO3.out.ty HW3.out.b.typ (by decide))
        have p0 : w5.cell? ⟨P, 0, none⟩ = some (.pointer (some ⟨B2, 0, none⟩)) := hW5.p.c 0 _ rfl
        have hpl := hW5.p.ty.lt
        clear hW5 hF5 HSu HCo HK5 HW3 HA3 HC3 HO3 o0 o1 o2 hol3
        go_wp2_with fail
        refine (klog_any b2 B2 W _ HW5.out.b).mono ?_
        rintro e w2 ⟨rfl, h2⟩
        have h3 := h2.symm
        subst h3
        clear h2
        go_wp2_with fail
        refine (ksnap_any b2 B2 w5 HKI2.out.ok HW5.out.b.pb).mono ?_
        obtain ⟨y, hy⟩ : ∃ y, y = Kp.snOf b2.st := ⟨_, rfl⟩
        have HY : Hid (y = Kp.snOf b2.st) := hy
        rw [← hy]
        clear hy
        rintro e w2 ⟨⟨sl, en, rfl, hA⟩, hb2⟩
        obtain ⟨bd, dap, rfl, hdap⟩ := hA.sl.form
        obtain ⟨bd2, dap2, rfl, hdap2⟩ := hA.en.form
        have hb3 := hb2.trans ((below_alloc w2 (snO y (.slice bd y.slots.length dap) (.slice bd2 y.ends.length dap2))).mono hb2.size)
        have hI := Cl.new w2 (snC y (.slice bd y.slots.length dap) (.slice bd2 y.ends.length dap2)) 40
        have hA3 := hA.later (below_alloc w2 (snO y (.slice bd y.slots.length dap) (.slice bd2 y.ends.length dap2)))
        clear hA hb2 p0 hpl
        go_upto_region 13 with fail
        have hI' : Cl (w2.alloc (snO y (.slice bd y.slots.length dap) (.slice bd2 y.ends.length dap2))) w2.heap.size 40 (snC y (.slice bd y.slots.length dap) (.slice bd2 y.ends.length dap2)) := hI
        clear hI
        generalize w2.alloc (snO y (.slice bd y.slots.length dap) (.slice bd2 y.ends.length dap2)) = W6 at *
        generalize w2.heap.size = qz at *
        have HV : Hid (Sv W W6 P B2 (w.heap.size + 1) qa qz kd n s l r t c2 g2 b2 x (.slice ad x.slots.length cap) (.slice ad2 x.ends.length cap2) y (.slice bd y.slots.length dap) (.slice bd2 y.ends.length dap2)) := ⟨HO5.out.later hb3, HW5.out.later hb3, HC5.out.later hb3, HA5.out.later hb3, hI', hA3⟩
        have HLx : Hid (x.slots.length ≤ 10000 ∧ x.ends.length ≤ 10000) := by unfold Hid; rw [HX.out]; exact sn_lens HKI.out
        have HLy : Hid (y.slots.length ≤ 10000 ∧ y.ends.length ≤ 10000) := by unfold Hid; rw [HY.out]; exact sn_lens HKI2.out
        have HMy : Hid (mayB l r = true ∧ b.log.size ≤ 4000 ∧ b2.log.size ≤ 4000) := ⟨(kil HKI.out).2.2.2.1, (kil HKI.out).2.2.2.2, (kil HKI2.out).2.2.2.2⟩
        have hz1 := HMy.out.2.1
        have hz2 := HMy.out.2.2
        have o0 := HV.out.st.c 0 _ rfl
        have hol := HV.out.st.ty.lt
        clear hb3 hI' hA3 HW5 HA5 HC5 HO5 b2'
        by_cases h5 : kd = 5
        · subst h5
          have HBc : Hid (b2 = Px.compB b) := HCmp.out rfl
          obtain ⟨xi, hxi⟩ : ∃ xi, xi = Kp.intT x := ⟨_, rfl⟩
          have HXi : Hid (xi = Kp.intT x) := hxi
          clear hxi
          have HYx : Hid (y = x) := by unfold Hid; rw [HY.out, HX.out, HBc.out]; rfl
          have hyx := HYx.out
          subst hyx
          have HLi : Hid (xi.slots.length ≤ 10000 ∧ xi.ends.length ≤ 10000) := by unfold Hid; rw [HXi.out, (int_lens y).1, (int_lens y).2]; exact HLx.out
          have HO1 : Hid (∀ (s : Px.St) (q : ByteArray) (n : Int), Bx.Says true Bx.first b.log (Px.abs s) q → n + (q.size : Int) = (b.log.size : Int) → n = (b.log.size : Int) ∧ Kp.snB (Px.abs s) = xi) := fun s q n e1 e2 => by rw [HXi.out, HX.out]; exact opened_all HKI.out e1 e2
          have HO2 : Hid (∀ (s : Px.St) (q : ByteArray) (n : Int), Bx.Says true Bx.first b2.log (Px.abs s) q → n + (q.size : Int) = (b2.log.size : Int) → n = (b2.log.size : Int) ∧ Kp.snB (Px.abs s) = xi) := fun s q n e1 e2 => by rw [HXi.out, HY.out]; exact opened_all HKI2.out e1 e2
          go_wp2_with fail
          refine (kreop_any b.log W6 P l r _ HV.out.kw.p rfl rfl HMy.out.1 HMy.out.2.1 (HT.out.later HV.out.kw.bl)).mono ?_
          rintro e w7 ⟨s7, q7, n7, sl7, en7, rfl, g1, g2, _, hA7, hb7⟩
          obtain ⟨rfl, e7⟩ := HO1.out _ _ _ g1 g2
          rw [e7] at hA7 ⊢
          obtain ⟨ad7, cap7, rfl, _⟩ := hA7.sl.form
          obtain ⟨ae7, cae7, rfl, _⟩ := hA7.en.form
          clear g1 g2 e7 o0 hol
          have hb8 := hb7.trans ((below_alloc w7 (snO xi (.slice ad7 xi.slots.length cap7) (.slice ae7 xi.ends.length cae7))).mono hb7.size)
          have hI := Cl.new w7 (snC xi (.slice ad7 xi.slots.length cap7) (.slice ae7 xi.ends.length cae7)) 40
          have hA8 := hA7.later (below_alloc w7 (snO xi (.slice ad7 xi.slots.length cap7) (.slice ae7 xi.ends.length cae7)))
          clear hA7 hb7
          go_upto_region 17 with fail
          have hI' : Cl (w7.alloc (snO xi (.slice ad7 xi.slots.length cap7) (.slice ae7 xi.ends.length cae7))) w7.heap.size 40 (snC xi (.slice ad7 xi.slots.length cap7) (.slice ae7 xi.ends.length cae7)) := hI
          clear hI
          generalize w7.alloc (snO xi (.slice ad7 xi.slots.length cap7) (.slice ae7 xi.ends.length cae7)) = W8 at *
          generalize w7.heap.size = q8 at *
          have HV8 : Hid (Sv W W8 P B2 (w.heap.size + 1) qa qz 5 n s l r t c2 g2 b2 y (.slice ad y.slots.length cap) (.slice ad2 y.ends.length cap2) y (.slice bd y.slots.length dap) (.slice bd2 y.ends.length dap2)) := HV.out.later hb8
          have H8 : Hid (Cl W8 q8 40 (snC xi (.slice ad7 xi.slots.length cap7) (.slice ae7 xi.ends.length cae7)) ∧ SnAt W8 xi (.slice ad7 xi.slots.length cap7) (.slice ae7 xi.ends.length cae7)) := ⟨hI', hA8⟩
          clear HV hb8 hI' hA8
          go_wp2_with fail
          refine (kreop_any b2.log W8 P l r _ HV8.out.kw.p rfl rfl HMy.out.1 HMy.out.2.2 (HT.out.later HV8.out.kw.bl)).mono ?_
          rintro e w9 ⟨s9, q9, n9, sl9, en9, rfl, g1, g2, _, hA9, hb9⟩
          obtain ⟨rfl, e9⟩ := HO2.out _ _ _ g1 g2
          rw [e9] at hA9 ⊢
          obtain ⟨ad9, cap9, rfl, _⟩ := hA9.sl.form
          obtain ⟨ae9, cae9, rfl, _⟩ := hA9.en.form
          clear g1 g2 e9
          have hb10 := hb9.trans ((below_alloc w9 (snO xi (.slice ad9 xi.slots.length cap9) (.slice ae9 xi.ends.length cae9))).mono hb9.size)
          have hI := Cl.new w9 (snC xi (.slice ad9 xi.slots.length cap9) (.slice ae9 xi.ends.length cae9)) 40
          have hA10 := hA9.later (below_alloc w9 (snO xi (.slice ad9 xi.slots.length cap9) (.slice ae9 xi.ends.length cae9)))
          clear hA9 hb9
          go_upto_region 18 with fail
          have hI' : Cl (w9.alloc (snO xi (.slice ad9 xi.slots.length cap9) (.slice ae9 xi.ends.length cae9))) w9.heap.size 40 (snC xi (.slice ad9 xi.slots.length cap9) (.slice ae9 xi.ends.length cae9)) := hI
          clear hI
          generalize w9.alloc (snO xi (.slice ad9 xi.slots.length cap9) (.slice ae9 xi.ends.length cae9)) = W10 at *
          generalize w9.heap.size = q10 at *
          have HV10 : Hid (Sv W W10 P B2 (w.heap.size + 1) qa qz 5 n s l r t c2 g2 b2 y (.slice ad y.slots.length cap) (.slice ad2 y.ends.length cap2) y (.slice bd y.slots.length dap) (.slice bd2 y.ends.length dap2)) := HV8.out.later hb10
          have H8' : Hid (Cl W10 q8 40 (snC xi (.slice ad7 xi.slots.length cap7) (.slice ae7 xi.ends.length cae7)) ∧ SnAt W10 xi (.slice ad7 xi.slots.length cap7) (.slice ae7 xi.ends.length cae7)) := ⟨H8.out.1.later hb10, H8.out.2.later hb10⟩
          have H10 : Hid (Cl W10 q10 40 (snC xi (.slice ad9 xi.slots.length cap9) (.slice ae9 xi.ends.length cae9)) ∧ SnAt W10 xi (.slice ad9 xi.slots.length cap9) (.slice ae9 xi.ends.length cae9)) := ⟨hI', hA10⟩
          clear HV8 H8 hb10 hI' hA10
          have u0 := (HV10.out.ca).c 0 _ rfl
          have u1 := (HV10.out.ca).c 1 _ rfl
          have u2 := (HV10.out.ca).c 2 _ rfl
          have u3 := (HV10.out.ca).c 3 _ rfl
          have u4 := (HV10.out.ca).c 4 _ rfl
          have u5 := (HV10.out.ca).c 5 _ rfl
          have u6 := (HV10.out.ca).c 6 _ rfl
          have hul := (HV10.out.ca).ty.lt
          go_wp2_with fail
          refine (kint_any y _ _ W10 HLy.out.1 HV10.out.sa).mono ?_
          rw [← HXi.out]
          rintro e w11 ⟨⟨sl11, rfl, hA11⟩, hb11⟩
          obtain ⟨ad11, cap11, rfl, _⟩ := hA11.sl.form
          have hb12 := hb11.trans ((below_alloc w11 (snO xi (.slice ad11 xi.slots.length cap11) (.slice ad2 y.ends.length cap2))).mono hb11.size)
          have hI := Cl.new w11 (snC xi (.slice ad11 xi.slots.length cap11) (.slice ad2 y.ends.length cap2)) 40
          have hA12 := hA11.later (below_alloc w11 (snO xi (.slice ad11 xi.slots.length cap11) (.slice ad2 y.ends.length cap2)))
          clear hA11 hb11 u0 u1 u2 u3 u4 u5 u6 hul
          go_upto_region 19 with fail
          have hI' : Cl (w11.alloc (snO xi (.slice ad11 xi.slots.length cap11) (.slice ad2 y.ends.length cap2))) w11.heap.size 40 (snC xi (.slice ad11 xi.slots.length cap11) (.slice ad2 y.ends.length cap2)) := hI
          clear hI
          generalize w11.alloc (snO xi (.slice ad11 xi.slots.length cap11) (.slice ad2 y.ends.length cap2)) = W12 at *
          generalize w11.heap.size = q12 at *
          have HV12 : Hid (Sv W W12 P B2 (w.heap.size + 1) qa qz 5 n s l r t c2 g2 b2 y (.slice ad y.slots.length cap) (.slice ad2 y.ends.length cap2) y (.slice bd y.slots.length dap) (.slice bd2 y.ends.length dap2)) := HV10.out.later hb12
          have H8a : Hid (Cl W12 q8 40 (snC xi (.slice ad7 xi.slots.length cap7) (.slice ae7 xi.ends.length cae7)) ∧ SnAt W12 xi (.slice ad7 xi.slots.length cap7) (.slice ae7 xi.ends.length cae7)) := ⟨H8'.out.1.later hb12, H8'.out.2.later hb12⟩
          have H10a : Hid (Cl W12 q10 40 (snC xi (.slice ad9 xi.slots.length cap9) (.slice ae9 xi.ends.length cae9)) ∧ SnAt W12 xi (.slice ad9 xi.slots.length cap9) (.slice ae9 xi.ends.length cae9)) := ⟨H10.out.1.later hb12, H10.out.2.later hb12⟩
          have H12 : Hid (Cl W12 q12 40 (snC xi (.slice ad11 xi.slots.length cap11) (.slice ad2 y.ends.length cap2)) ∧ SnAt W12 xi (.slice ad11 xi.slots.length cap11) (.slice ad2 y.ends.length cap2)) := ⟨hI', hA12⟩
          clear HV10 H8' H10 hb12 hI' hA12
          have u0 := (HV12.out.ca).c 0 _ rfl
          have u1 := (HV12.out.ca).c 1 _ rfl
          have u2 := (HV12.out.ca).c 2 _ rfl
          have u3 := (HV12.out.ca).c 3 _ rfl
          have u4 := (HV12.out.ca).c 4 _ rfl
          have u5 := (HV12.out.ca).c 5 _ rfl
          have u6 := (HV12.out.ca).c 6 _ rfl
          have hul := (HV12.out.ca).ty.lt
          have v0 := (HV12.out.cz).c 0 _ rfl
          have v1 := (HV12.out.cz).c 1 _ rfl
          have v2 := (HV12.out.cz).c 2 _ rfl
          have v3 := (HV12.out.cz).c 3 _ rfl
          have v4 := (HV12.out.cz).c 4 _ rfl
          have v5 := (HV12.out.cz).c 5 _ rfl
          have v6 := (HV12.out.cz).c 6 _ rfl
          have hvl := (HV12.out.cz).ty.lt
          go_wp2_with fail
          refine (ksame_any y _ _ _ _ W12 HLy.out.1 HLy.out.2 HV12.out.sa HV12.out.sz).mono ?_
          rintro e w13 ⟨rfl, hb13⟩
          have HV13 : Hid (Sv W w13 P B2 (w.heap.size + 1) qa qz 5 n s l r t c2 g2 b2 y (.slice ad y.slots.length cap) (.slice ad2 y.ends.length cap2) y (.slice bd y.slots.length dap) (.slice bd2 y.ends.length dap2)) := HV12.out.later hb13
          have H8b : Hid (Cl w13 q8 40 (snC xi (.slice ad7 xi.slots.length cap7) (.slice ae7 xi.ends.length cae7)) ∧ SnAt w13 xi (.slice ad7 xi.slots.length cap7) (.slice ae7 xi.ends.length cae7)) := ⟨H8a.out.1.later hb13, H8a.out.2.later hb13⟩
          have H10b : Hid (Cl w13 q10 40 (snC xi (.slice ad9 xi.slots.length cap9) (.slice ae9 xi.ends.length cae9)) ∧ SnAt w13 xi (.slice ad9 xi.slots.length cap9) (.slice ae9 xi.ends.length cae9)) := ⟨H10a.out.1.later hb13, H10a.out.2.later hb13⟩
          have H12b : Hid (Cl w13 q12 40 (snC xi (.slice ad11 xi.slots.length cap11) (.slice ad2 y.ends.length cap2)) ∧ SnAt w13 xi (.slice ad11 xi.slots.length cap11) (.slice ad2 y.ends.length cap2)) := ⟨H12.out.1.later hb13, H12.out.2.later hb13⟩
          clear u0 u1 u2 u3 u4 u5 u6 hul v0 v1 v2 v3 v4 v5 v6 hvl HV12 H8a H10a H12 hb13
          have u0 := (H8b.out.1).c 0 _ rfl
          have u1 := (H8b.out.1).c 1 _ rfl
          have u2 := (H8b.out.1).c 2 _ rfl
          have u3 := (H8b.out.1).c 3 _ rfl
          have u4 := (H8b.out.1).c 4 _ rfl
          have u5 := (H8b.out.1).c 5 _ rfl
          have u6 := (H8b.out.1).c 6 _ rfl
          have hul := (H8b.out.1).ty.lt
          have v0 := (H12b.out.1).c 0 _ rfl
          have v1 := (H12b.out.1).c 1 _ rfl
          have v2 := (H12b.out.1).c 2 _ rfl
          have v3 := (H12b.out.1).c 3 _ rfl
          have v4 := (H12b.out.1).c 4 _ rfl
          have v5 := (H12b.out.1).c 5 _ rfl
          have v6 := (H12b.out.1).c 6 _ rfl
          have hvl := (H12b.out.1).ty.lt
          go_wp2_with fail
          refine (ksame_any xi _ _ _ _ w13 HLi.out.1 HLi.out.2 H8b.out.2 H12b.out.2).mono ?_
          rintro e w14 ⟨rfl, hb14⟩
          have HV14 : Hid (Sv W w14 P B2 (w.heap.size + 1) qa qz 5 n s l r t c2 g2 b2 y (.slice ad y.slots.length cap) (.slice ad2 y.ends.length cap2) y (.slice bd y.slots.length dap) (.slice bd2 y.ends.length dap2)) := HV13.out.later hb14
          have H10c : Hid (Cl w14 q10 40 (snC xi (.slice ad9 xi.slots.length cap9) (.slice ae9 xi.ends.length cae9)) ∧ SnAt w14 xi (.slice ad9 xi.slots.length cap9) (.slice ae9 xi.ends.length cae9)) := ⟨H10b.out.1.later hb14, H10b.out.2.later hb14⟩
          have H12c : Hid (Cl w14 q12 40 (snC xi (.slice ad11 xi.slots.length cap11) (.slice ad2 y.ends.length cap2)) ∧ SnAt w14 xi (.slice ad11 xi.slots.length cap11) (.slice ad2 y.ends.length cap2)) := ⟨H12b.out.1.later hb14, H12b.out.2.later hb14⟩
          clear u0 u1 u2 u3 u4 u5 u6 hul v0 v1 v2 v3 v4 v5 v6 hvl HV13 H8b H10b H12b hb14
          have u0 := (H10c.out.1).c 0 _ rfl
          have u1 := (H10c.out.1).c 1 _ rfl
          have u2 := (H10c.out.1).c 2 _ rfl
          have u3 := (H10c.out.1).c 3 _ rfl
          have u4 := (H10c.out.1).c 4 _ rfl
          have u5 := (H10c.out.1).c 5 _ rfl
          have u6 := (H10c.out.1).c 6 _ rfl
          have hul := (H10c.out.1).ty.lt
          have v0 := (H12c.out.1).c 0 _ rfl
          have v1 := (H12c.out.1).c 1 _ rfl
          have v2 := (H12c.out.1).c 2 _ rfl
          have v3 := (H12c.out.1).c 3 _ rfl
          have v4 := (H12c.out.1).c 4 _ rfl
          have v5 := (H12c.out.1).c 5 _ rfl
          have v6 := (H12c.out.1).c 6 _ rfl
          have hvl := (H12c.out.1).ty.lt
          go_wp2_with fail
          refine (ksame_any xi _ _ _ _ w14 HLi.out.1 HLi.out.2 H10c.out.2 H12c.out.2).mono ?_
          rintro e w15 ⟨rfl, hb15⟩
          have HBe : Hid (Below w.heap.size w w15) := HB0.out.trans (((HV14.out.later hb15).kw.bl).mono HB0.out.size)
          clear u0 u1 u2 u3 u4 u5 u6 hul v0 v1 v2 v3 v4 v5 v6 hvl hb15
          go_wp2_with fail
          go_ret
          exact ⟨rfl, HBe.out⟩
        · have HSu : Hid (Kp.Sur b b2) := HSur.out h5
          obtain ⟨hp1, hp2⟩ := HSu.out.pre
          obtain ⟨xi, hxi⟩ : ∃ xi, xi = Kp.intT x := ⟨_, rfl⟩
          have HXi : Hid (xi = Kp.intT x) := hxi
          clear hxi
          obtain ⟨yi, hyi⟩ : ∃ yi, yi = Kp.intT y := ⟨_, rfl⟩
          have HYi : Hid (yi = Kp.intT y) := hyi
          clear hyi
          have HLi : Hid (xi.slots.length ≤ 10000 ∧ xi.ends.length ≤ 10000) := by unfold Hid; rw [HXi.out, (int_lens x).1, (int_lens x).2]; exact HLx.out
          have HLj : Hid (yi.slots.length ≤ 10000 ∧ yi.ends.length ≤ 10000) := by unfold Hid; rw [HYi.out, (int_lens y).1, (int_lens y).2]; exact HLy.out
          have HEq : Hid (b2.log.size = b.log.size → xi = yi) := fun e => by rw [HXi.out, HYi.out, HX.out, HY.out]; exact HSu.out.same e
          have hp2' : b2.log.extract 0 b.log.size = b.log := hp2
          have b7 : ¬ (b2.log.size : Int) < (b.log.size : Int) := by omega
          have b8 : ¬ b2.log.size < b.log.size := by omega
          have b9 : (0 : Int) ≤ (b.log.size : Int) := by omega
          have b10 : (b.log.size : Int) ≤ (b2.log.size : Int) := by omega
          have hd7 : decide ((b2.log.size : Int) < (b.log.size : Int)) = false := decide_eq_false b7
          clear hp2 HSur HCmp
          go_wp2_with fail
          go_cut [173] from 146 to 172 (fun s1 wx => s1 = .bool false ∧ Below W6.heap.size W6 wx)
          case first =>
            by_cases he : b2.log.size = b.log.size
            · have hxy := HEq.out he
              subst hxy
              have u0 := (HV.out.ca).c 0 _ rfl
              have u1 := (HV.out.ca).c 1 _ rfl
              have u2 := (HV.out.ca).c 2 _ rfl
              have u3 := (HV.out.ca).c 3 _ rfl
              have u4 := (HV.out.ca).c 4 _ rfl
              have u5 := (HV.out.ca).c 5 _ rfl
              have u6 := (HV.out.ca).c 6 _ rfl
              have hul := (HV.out.ca).ty.lt
              have v0 := (HV.out.cz).c 0 _ rfl
              have v1 := (HV.out.cz).c 1 _ rfl
              have v2 := (HV.out.cz).c 2 _ rfl
              have v3 := (HV.out.cz).c 3 _ rfl
              have v4 := (HV.out.cz).c 4 _ rfl
              have v5 := (HV.out.cz).c 5 _ rfl
              have v6 := (HV.out.cz).c 6 _ rfl
              have hvl := (HV.out.cz).ty.lt
              have CI : Hid (∀ w', Below W6.heap.size W6 w' → Calls Tryz.prog 11 #[snV x (.slice ad x.slots.length cap) (.slice ad2 x.ends.length cap2)] w' fun e w2 => ∃ sl', e = .returned (snV xi sl' (.slice ad2 x.ends.length cap2)) ∧ SnAt w2 xi sl' (.slice ad2 x.ends.length cap2) ∧ Below w'.heap.size w' w2 ∧ Below W6.heap.size W6 w2) := fun w' hb => by rw [HXi.out]; exact (kint_any x _ _ w' HLx.out.1 (HV.out.sa.later hb)).mono fun _ _ ⟨⟨sl', h1, h2⟩, h3⟩ => ⟨sl', h1, h2, h3, hb.trans (h3.mono hb.size)⟩
              have CJ : Hid (∀ w', Below W6.heap.size W6 w' → Calls Tryz.prog 11 #[snV y (.slice bd y.slots.length dap) (.slice bd2 y.ends.length dap2)] w' fun e w2 => ∃ sl', e = .returned (snV xi sl' (.slice bd2 y.ends.length dap2)) ∧ SnAt w2 xi sl' (.slice bd2 y.ends.length dap2) ∧ Below w'.heap.size w' w2 ∧ Below W6.heap.size W6 w2) := fun w' hb => by rw [HYi.out]; exact (kint_any y _ _ w' HLy.out.1 (HV.out.sz.later hb)).mono fun _ _ ⟨⟨sl', h1, h2⟩, h3⟩ => ⟨sl', h1, h2, h3, hb.trans (h3.mono hb.size)⟩
              clear hd7 b7 b8
              go_region_held3 (fun w' => ∀ b o, b < W6.heap.size → w'.cell? ⟨b, o, none⟩ = W6.cell? ⟨b, o, none⟩)
                ((intro b' o' h1; first | (exact hbS.cell (p := ⟨b', o', none⟩) h1) | (exact hbJ.cell (p := ⟨b', o', none⟩) h1) | (exact hbI.cell (p := ⟨b', o', none⟩) h1) | rfl))
                (first
                  | (go_at_call 11; with_reducible refine (CI.out _ ?hb).mono ?_; (case hb => first | exact hbJ | exact (Below.refl _ _).drew | exact Below.refl _ _); rintro e w7 ⟨sl7, rfl, hA7, hb7, hbI⟩)
                  | (go_at_call 11; with_reducible refine (CJ.out _ ?hb).mono ?_; (case hb => first | exact hbI | exact (Below.refl _ _).drew | exact Below.refl _ _); rintro e w8 ⟨sl8, rfl, hA8, hb8, hbJ⟩)
                  | (go_at_call 12; refine (ksame_any xi sl7 (.slice ad2 x.ends.length cap2) sl8 (.slice bd2 y.ends.length dap2) _ HLi.out.1 HLi.out.2 (by first | exact hA7.later hb8 | exact hA7) (by first | exact hA8 | exact hA8.later hb7)).mono ?_; rintro e w9 ⟨rfl, hb9⟩; have hbS : Below W6.heap.size W6 w9 := by first | exact hbJ.trans (hb9.mono hbJ.size) | exact hbI.trans (hb9.mono hbI.size)))
              go_wp2_with fail
              go_meet
              exact ⟨rfl, hbS⟩
            · have hd8 : decide ((b2.log.size : Int) = (b.log.size : Int)) = false := decide_eq_false (by omega)
              have hd9 : decide (b2.log.size = b.log.size) = false := decide_eq_false he
              have hd10 : ((b2.log.size : Int) == (b.log.size : Int)) = false := by rw [beq_eq_false_iff_ne]; omega
              go_quiet (fail)
              go_wp2_with fail
              go_meet
              exact ⟨rfl, below_drewN (Below.refl _ _) _⟩
          case rest =>
            obtain ⟨rfl, hbc⟩ := hcut
            have HVc : Hid (Sv W wc P B2 (w.heap.size + 1) qa qz kd n s l r t c2 g2 b2 x (.slice ad x.slots.length cap) (.slice ad2 x.ends.length cap2) y (.slice bd y.slots.length dap) (.slice bd2 y.ends.length dap2)) := HV.out.later hbc
            clear HV hbc HEq hd7 b7 b8 b9 o0 hol
            obtain ⟨dN, hdN⟩ : ∃ dN : Nat, b2.log.size = b.log.size + dN := ⟨b2.log.size - b.log.size, by omega⟩
            have wr1 : IntKind.i64.wrap ((b2.log.size : Int) - (b.log.size : Int)) = (dN : Int) := by rw [IntKind.wrap_i64]; omega
            have wr2 : IntKind.i64.wrap ((dN : Int) + 1) = (dN : Int) + 1 := by rw [IntKind.wrap_i64]; omega
            have hpk := pk_bd cut ((dN : Int) + 1) (by omega)
            obtain ⟨m, hm⟩ : ∃ m : Nat, pk cut ((dN : Int) + 1) = (m : Int) := ⟨(pk cut ((dN : Int) + 1)).toNat, by omega⟩
            have HM : Hid (pk cut ((dN : Int) + 1) = (m : Int)) := hm
            obtain ⟨cN, hcN⟩ : ∃ cN : Nat, cN = b.log.size + m := ⟨_, rfl⟩
            have wr3 : IntKind.i64.wrap ((b.log.size : Int) + (m : Int)) = (cN : Int) := by rw [IntKind.wrap_i64]; omega
            have HcN : Hid (b.log.size ≤ cN ∧ cN ≤ b2.log.size) := by unfold Hid; omega
            have b11 : (0 : Int) ≤ (cN : Int) := by omega
            have b12 : (cN : Int) ≤ (b2.log.size : Int) := by omega
            clear hm hpk hcN
            have hdl : dN ≤ 4000 := by omega
            clear hdN
            go_wp2_with fail
            refine (pick_at cut ((dN : Int) + 1) (m : Int) _ HM.out HN.out.2.2.1 HN.out.2.2.2 (by omega) (by omega)).mono ?_
            rintro e w2 ⟨rfl, h2⟩
            have h3 := h2.symm
            subst h3
            clear h2
            go_wp2_with fail
            refine (kreop_any (b2.log.extract 0 cN) wc P l r _ HVc.out.kw.p rfl rfl HMy.out.1 (by rw [extract_size HcN.out.2]; have := HcN.out; omega) (HT.out.later HVc.out.kw.bl)).mono ?_
            rintro e w7 ⟨s7, q7, n7, sl7, en7, rfl, g1, g2, gm, hA7, hb7⟩
            have HCt : Hid (Cut b b2 (cN : Int) n7 (Kp.snB (Px.abs s7))) := Sur.opened HKI.out HSu.out HcN.out.1 HcN.out.2 g1 g2
            have HLu : Hid ((Kp.snB (Px.abs s7)).slots.length ≤ 10000 ∧ (Kp.snB (Px.abs s7)).ends.length ≤ 10000) := mayS_lens gm
            generalize Kp.snB (Px.abs s7) = u at *
            obtain ⟨ad7, cap7, rfl, _⟩ := hA7.sl.form
            obtain ⟨ae7, cae7, rfl, _⟩ := hA7.en.form
            clear g1 g2 gm wr1 wr2 wr3
            have hb8 := hb7.trans ((below_alloc w7 (snO u (.slice ad7 u.slots.length cap7) (.slice ae7 u.ends.length cae7))).mono hb7.size)
            have hI := Cl.new w7 (snC u (.slice ad7 u.slots.length cap7) (.slice ae7 u.ends.length cae7)) 40
            have hA8 := hA7.later (below_alloc w7 (snO u (.slice ad7 u.slots.length cap7) (.slice ae7 u.ends.length cae7)))
            clear hA7 hb7
            go_upto_region 24 with fail
            have hI' : Cl (w7.alloc (snO u (.slice ad7 u.slots.length cap7) (.slice ae7 u.ends.length cae7))) w7.heap.size 40 (snC u (.slice ad7 u.slots.length cap7) (.slice ae7 u.ends.length cae7)) := hI
            clear hI
            generalize w7.alloc (snO u (.slice ad7 u.slots.length cap7) (.slice ae7 u.ends.length cae7)) = W8 at *
            generalize w7.heap.size = q8 at *
            have HV8 : Hid (Sv W W8 P B2 (w.heap.size + 1) qa qz kd n s l r t c2 g2 b2 x (.slice ad x.slots.length cap) (.slice ad2 x.ends.length cap2) y (.slice bd y.slots.length dap) (.slice bd2 y.ends.length dap2)) := HVc.out.later hb8
            have H8 : Hid (Cl W8 q8 40 (snC u (.slice ad7 u.slots.length cap7) (.slice ae7 u.ends.length cae7)) ∧ SnAt W8 u (.slice ad7 u.slots.length cap7) (.slice ae7 u.ends.length cae7)) := ⟨hI', hA8⟩
            have HB8 : Hid (Below w.heap.size w W8) := HB0.out.trans (HV8.out.kw.bl.mono HB0.out.size)
            clear HVc hb8 hI' hA8
            have t1 : ¬ (cN : Int) < n7 := by have := HCt.out.le; omega
            have t2 : ¬ n7 < (b.log.size : Int) := by have := HCt.out.ge; omega
            have p0 := (H8.out.1).c 0 _ rfl
            have p1 := (H8.out.1).c 1 _ rfl
            have p2 := (H8.out.1).c 2 _ rfl
            have p3 := (H8.out.1).c 3 _ rfl
            have p4 := (H8.out.1).c 4 _ rfl
            have p5 := (H8.out.1).c 5 _ rfl
            have p6 := (H8.out.1).c 6 _ rfl
            have hpl := (H8.out.1).ty.lt
            by_cases hcl : cN = b2.log.size
            · obtain ⟨e1, e2⟩ := HCt.out.all (by omega)
              have e3 : u = yi := by rw [e2, HYi.out, HY.out]
              clear e2
              subst e1 e3
              subst hcl
              have v0 := (HV8.out.cz).c 0 _ rfl
              have v1 := (HV8.out.cz).c 1 _ rfl
              have v2 := (HV8.out.cz).c 2 _ rfl
              have v3 := (HV8.out.cz).c 3 _ rfl
              have v4 := (HV8.out.cz).c 4 _ rfl
              have v5 := (HV8.out.cz).c 5 _ rfl
              have v6 := (HV8.out.cz).c 6 _ rfl
              have hvl := (HV8.out.cz).ty.lt
              have CI : Hid (∀ w', Below W8.heap.size W8 w' → Calls Tryz.prog 11 #[snV y (.slice bd y.slots.length dap) (.slice bd2 y.ends.length dap2)] w' fun e w2 => ∃ sl', e = .returned (snV u sl' (.slice bd2 y.ends.length dap2)) ∧ SnAt w2 u sl' (.slice bd2 y.ends.length dap2) ∧ Below W8.heap.size W8 w2) := fun w' hb => by rw [HYi.out]; exact (kint_any y _ _ w' HLy.out.1 (HV8.out.sz.later hb)).mono fun _ _ ⟨⟨sl', h1, h2⟩, h3⟩ => ⟨sl', h1, h2, hb.trans (h3.mono hb.size)⟩
              clear hp2'
              go_wp2_with fail
              go_region_held3 (fun w' => ∀ b o, b < W8.heap.size → w'.cell? ⟨b, o, none⟩ = W8.cell? ⟨b, o, none⟩)
                ((intro b' o' h1; first | (with_reducible exact hbS.cell (p := ⟨b', o', none⟩) h1) | (with_reducible exact hbI.cell (p := ⟨b', o', none⟩) h1) | (with_reducible exact ((Below.refl _ _).drew).cell (p := ⟨b', o', none⟩) h1) | rfl))
                (first
                  | (go_at_call 11; with_reducible refine (CI.out _ ?hb).mono ?_; (case hb => first | exact (Below.refl _ _).drew | exact Below.refl _ _); rintro e w9 ⟨sl9, rfl, hA9, hbI⟩)
                  | (go_at_call 12; with_reducible refine (ksame_any u (.slice ad7 u.slots.length cap7) (.slice ae7 u.ends.length cae7) sl9 (.slice bd2 y.ends.length dap2) _ HLu.out.1 HLu.out.2 (H8.out.2.later hbI) hA9).mono ?_; rintro e w10 ⟨rfl, hb10⟩; have hbS : Below W8.heap.size W8 w10 := hbI.trans (hb10.mono hbI.size)))
              rename ∀ (b o : Nat), b < W8.heap.size → _ = W8.cell? _ => hSold
              have HBe : Hid (Below w.heap.size w w10) := HB8.out.trans (hbS.mono HB8.out.size)
              clear hSold hbS hbI hb10 hA9
              go_wp2_with fail
              go_ret
              exact ⟨rfl, HBe.out⟩
            · have hci : ¬ (cN : Int) = (b2.log.size : Int) := by omega
              by_cases hno : n7 = (b.log.size : Int)
              · have e3 : u = xi := by rw [HCt.out.none hno, HXi.out, HX.out]
                subst e3
                subst hno
                have q0 := (HV8.out.ca).c 0 _ rfl
                have q1 := (HV8.out.ca).c 1 _ rfl
                have q2 := (HV8.out.ca).c 2 _ rfl
                have q3 := (HV8.out.ca).c 3 _ rfl
                have q4 := (HV8.out.ca).c 4 _ rfl
                have q5 := (HV8.out.ca).c 5 _ rfl
                have q6 := (HV8.out.ca).c 6 _ rfl
                have hql := (HV8.out.ca).ty.lt
                have CI : Hid (∀ w', Below W8.heap.size W8 w' → Calls Tryz.prog 11 #[snV x (.slice ad x.slots.length cap) (.slice ad2 x.ends.length cap2)] w' fun e w2 => ∃ sl', e = .returned (snV u sl' (.slice ad2 x.ends.length cap2)) ∧ SnAt w2 u sl' (.slice ad2 x.ends.length cap2) ∧ Below W8.heap.size W8 w2) := fun w' hb => by rw [HXi.out]; exact (kint_any x _ _ w' HLx.out.1 (HV8.out.sa.later hb)).mono fun _ _ ⟨⟨sl', h1, h2⟩, h3⟩ => ⟨sl', h1, h2, hb.trans (h3.mono hb.size)⟩
                go_wp2_with fail
                go_region_held3 (fun w' => ∀ b o, b < W8.heap.size → w'.cell? ⟨b, o, none⟩ = W8.cell? ⟨b, o, none⟩)
                  ((intro b' o' h1; first | (with_reducible exact hbS.cell (p := ⟨b', o', none⟩) h1) | (with_reducible exact hbI.cell (p := ⟨b', o', none⟩) h1) | (with_reducible exact ((Below.refl _ _).drew).cell (p := ⟨b', o', none⟩) h1) | rfl))
                  (first
                    | (go_at_call 11; with_reducible refine (CI.out _ ?hb).mono ?_; (case hb => first | exact (Below.refl _ _).drew | exact Below.refl _ _); rintro e w9 ⟨sl9, rfl, hA9, hbI⟩)
                    | (go_at_call 12; with_reducible refine (ksame_any u (.slice ad7 u.slots.length cap7) (.slice ae7 u.ends.length cae7) sl9 (.slice ad2 x.ends.length cap2) _ HLu.out.1 HLu.out.2 (H8.out.2.later hbI) hA9).mono ?_; rintro e w10 ⟨rfl, hb10⟩; have hbS : Below W8.heap.size W8 w10 := hbI.trans (hb10.mono hbI.size)))
                rename ∀ (b o : Nat), b < W8.heap.size → _ = W8.cell? _ => hSold
                have HBe : Hid (Below w.heap.size w w10) := HB8.out.trans (hbS.mono HB8.out.size)
                clear hSold hbS hbI hb10 hA9
                go_wp2_with fail
                go_ret
                exact ⟨rfl, HBe.out⟩
              · have HBt : Hid (Kp.Btw x y u) := by unfold Hid; rw [HX.out, HY.out]; exact HCt.out.btw hci hno
                have q0 := (HV8.out.ca).c 0 _ rfl
                have q1 := (HV8.out.ca).c 1 _ rfl
                have q2 := (HV8.out.ca).c 2 _ rfl
                have q3 := (HV8.out.ca).c 3 _ rfl
                have q4 := (HV8.out.ca).c 4 _ rfl
                have q5 := (HV8.out.ca).c 5 _ rfl
                have q6 := (HV8.out.ca).c 6 _ rfl
                have hql := (HV8.out.ca).ty.lt
                have v0 := (HV8.out.cz).c 0 _ rfl
                have v1 := (HV8.out.cz).c 1 _ rfl
                have v2 := (HV8.out.cz).c 2 _ rfl
                have v3 := (HV8.out.cz).c 3 _ rfl
                have v4 := (HV8.out.cz).c 4 _ rfl
                have v5 := (HV8.out.cz).c 5 _ rfl
                have v6 := (HV8.out.cz).c 6 _ rfl
                have hvl := (HV8.out.cz).ty.lt
                go_wp2_with fail
                refine (kbetween_any x y u _ _ _ _ _ _ W8 HLx.out.1 HLy.out.1 HLu.out.1 HV8.out.sa HV8.out.sz H8.out.2 HBt.out).mono ?_
                rintro e w9 ⟨rfl, hb9⟩
                have HBe : Hid (Below w.heap.size w w9) := HB8.out.trans (hb9.mono HB8.out.size)
                clear hb9
                go_wp2_with fail
                go_ret
                exact ⟨rfl, HBe.out⟩
end Go.Proofs.YtdajolpoiffimabGreatDoor
