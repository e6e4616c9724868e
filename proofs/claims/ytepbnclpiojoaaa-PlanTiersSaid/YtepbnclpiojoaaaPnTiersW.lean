/- PlanTiers' walk over the contracts of the program's plan. Conditions: the segments lie in memory, at most 2^47 bytes of them. -/
import Derived.Test.YtepbnclpiojoaaaPnTiersP
namespace Go.Proofs.Ytepbnclpiojoaaa.PnTiersW
open Go Go.RowKit Words AppN PnSpec SgMem PnRef PnGone PnMerge PnSame PnCnt PnLaw PnAwake PnTiersP

def KRel (W : World) (P : Nat → Bool) (Y : List Nat) (v u : Value) (wr : World) : Prop := ∃ i : Nat, i ≤ Y.length ∧ v = .int .i64 (mt P Y i : Int) ∧ u = .int .i64 (i : Int) ∧ Hid (Below W.heap.size W wr)
/-- The boxes of the statement's numbers and marks. -/
structure Cel (w : World) (g : Nat) (n m p q : Int) : Prop where
  c0 : w.cell? ⟨g, 0, none⟩ = some (.int .i64 n)
  c1 : w.cell? ⟨g, 1, none⟩ = some (.int .i64 m)
  d0 : w.cell? ⟨g + 1, 0, none⟩ = some (.int .i64 p)
  d1 : w.cell? ⟨g + 1, 1, none⟩ = some (.int .i64 q)
  lt : g + 1 < w.heap.size
theorem Cel.up {w w' : World} {g : Nat} {n m p q : Int} (h : Cel w g n m p q) (hb : Below w.heap.size w w') : Cel w' g n m p q :=
  have l := h.lt
  ⟨cell_up hb (by simp only; omega) h.c0, cell_up hb (by simp only; omega) h.c1, cell_up hb (by simp only; omega) h.d0, cell_up hb (by simp only; omega) h.d1, Nat.lt_of_lt_of_le h.lt hb.size⟩
theorem cel_new (w : World) (n m p q : Int) (s t : TypeId) : Cel ((w.alloc (.cells #[.int .i64 n, .int .i64 m] s)).alloc (.cells #[.int .i64 p, .int .i64 q] t)) w.heap.size n m p q := by
  have h1 := (Below.heap_alloc (w.alloc (.cells #[.int .i64 n, .int .i64 m] s)) (.cells #[.int .i64 p, .int .i64 q] t) w.heap.size (by simp)).trans (heap_alloc_new w (.cells #[.int .i64 n, .int .i64 m] s))
  have h2 := heap_alloc2_new w (.cells #[.int .i64 n, .int .i64 m] s) (.cells #[.int .i64 p, .int .i64 q] t)
  exact ⟨cell_of_heapS h1 rfl, cell_of_heapS h1 rfl, cell_of_heapS h2 rfl, cell_of_heapS h2 rfl, by simp⟩
set_option maxHeartbeats 128000000 in
set_option maxRecDepth 100000 in
theorem tiers_walk (pn : Pns) (w : World) (s : Sl) (l : List Sg) (n m p q : Int) (hs : Sgs w s l) (hm : ∀ x ∈ l, In64 x.most) (hn : In64 n) (hnm : In64 m) (hp : In64 p) (hq : In64 q) (hl : l.length * 32 ≤ 140737488355328) :
    Calls Try.prog 5 #[.agg #[.int .i64 n, .int .i64 m], slV s, .agg #[.int .i64 p, .int .i64 q]] w fun e w' => e = .returned (.bool true) ∧ Below w.heap.size w w' := by
  have HS := Lib.hid hs
  obtain ⟨A, kk, c⟩ := s
  clear hs
  unfold slV
  have hT31 := tierI_le hn
  have hU31 := tierI_le hnm
  have H4 := fun h => tierI_four (n := n) h
  have HD := fun h => tierI_ge (n := n) h
  have HM1 := fun h : n ≤ m => tierI_mono h
  have HM2 := fun h : m ≤ n => tierI_mono h
  have HL := fun h : n < 1 => tierI_low (n := n) (by omega)
  have hn1 := hn.1
  have hn2 := hn.2
  go_enter Try.func5, Try.ntmps5
  go_wp2_with fail
  obtain ⟨W0, hW0⟩ : ∃ W0, ((w.alloc (.cells #[.int .i64 n, .int .i64 m] 36)).alloc (.cells #[.int .i64 p, .int .i64 q] 37)) = W0 := ⟨_, rfl⟩
  have HC : Hid (Cel W0 w.heap.size n m p q) := Lib.hid (by rw [← hW0]; exact cel_new w n m p q _ _)
  have HB0 : Hid (Below w.heap.size w W0) := Lib.hid (by rw [← hW0]; exact ((Below.refl _ w).alloc (Nat.le_refl _) _).trans ((Below.refl _ _).alloc (by simp) _))
  rw [hW0]
  clear hW0
  refine (awake_any pn _).mono ?_
  rintro _ w1 ⟨rfl, hb1⟩
  have HC1 := Lib.hid (HC.out.up hb1)
  have HB1 : Hid (Below w.heap.size w w1) := Lib.hid (HB0.out.trans (hb1.mono HB0.out.size))
  have c0 := HC1.out.c0
  have c1 := HC1.out.c1
  clear hb1 HC HB0
  go_wp2_with fail
  refine (pn.tier _ n hn).mono ?_
  rintro _ w2 ⟨rfl, hb2⟩
  have HC2 := Lib.hid (HC1.out.up hb2)
  have HB2 : Hid (Below w.heap.size w w2) := Lib.hid (HB1.out.trans (hb2.mono HB1.out.size))
  clear hb2 HB1 HC1 c0 c1
  have c0 := HC2.out.c0
  have c1 := HC2.out.c1
  go_wp2_with fail
  refine (pn.tier _ m hnm).mono ?_
  rintro _ w3 ⟨rfl, hb3⟩
  have HC3 := Lib.hid (HC2.out.up hb3)
  have HB3 : Hid (Below w.heap.size w w3) := Lib.hid (HB2.out.trans (hb3.mono HB2.out.size))
  clear hb3 HB2 HC2 c0 c1
  have c0 := HC3.out.c0
  have c1 := HC3.out.c1
  have d0 := HC3.out.d0
  have d1 := HC3.out.d1
  generalize hTn : tierI n = T at *
  generalize hTm : tierI m = U at *
  have HORD : (decide (n ≤ m) = true ∧ decide (m ≤ n) = false ∧ ¬ U < T) ∨ (decide (n ≤ m) = true ∧ decide (m ≤ n) = true ∧ U = T) ∨ (decide (n ≤ m) = false ∧ decide (m ≤ n) = true ∧ ¬ T < U) := by
    simp only [decide_eq_true_eq, decide_eq_false_iff_not]; omega
  have HLO : Hid (In64 (min p q)) := Lib.hid (by unfold In64 at *; omega)
  have HHI : Hid (In64 (max p q)) := Lib.hid (by unfold In64 at *; omega)
  have HGA : Hid (gone (l.map Sg.most) (min p q) = (gone (l.map Sg.most) (max p q)).filter fun i => decide ((l.map Sg.most).getD i 0 < min p q)) := Lib.hid (gone_among _ (by omega))
  have HGN : Hid (gone (l.map Sg.most) (-9223372036854775808) = []) := Lib.hid (gone_none (by simpa using hm))
  clear HM1 HM2 hn hnm hp hq
  have HRNG : n < 1 ∨ (1 ≤ n ∧ n < 4) ∨ (4 ≤ n ∧ n < 1099511627776) ∨ 1099511627776 ≤ n := by omega
  rcases HRNG with hA | hA | hA | hA
  case' inl =>
    have e1 : decide (n < 1) = true := decide_eq_true hA
    have e2 : decide (0 < n) = false := decide_eq_false (by omega)
    have e3 : decide (4 ≤ n) = false := decide_eq_false (by omega)
    have e4 : T = 0 := HL hA
    subst e4
    clear H4 HD HL hA
    rcases HORD with ⟨o1, o2, o3⟩ | ⟨o1, o2, o3⟩ | ⟨o1, o2, o3⟩
    all_goals
      try have q0 : decide ((U : Int) < 0) = false := decide_eq_false (by omega)
      try have q1 : decide ((0 : Int) < (U : Int)) = false := decide_eq_false (by omega)
      try have q2 : decide (U < 0) = false := decide_eq_false (by omega)
      try have q3 : decide (0 < U) = false := decide_eq_false (by omega)
      clear o3
      go_wp2_with fail
      have HC5 := HC3
      have HB5 := HB3
      clear HC3 HB3
  case' inr.inl =>
    have e1 : decide (n < 1) = false := decide_eq_false (by omega)
    have e2 : decide (0 < n) = true := decide_eq_true (by omega)
    have e5 : decide (n < 1099511627776) = true := decide_eq_true (by omega)
    have e3 : decide (4 ≤ n) = false := decide_eq_false (by omega)
    have hT4 := H4 hA.1
    clear H4 HD HL
    rcases HORD with ⟨o1, o2, o3⟩ | ⟨o1, o2, o3⟩ | ⟨o1, o2, o3⟩
    all_goals
      try have q0 : decide ((U : Int) < (T : Int)) = false := decide_eq_false (by omega)
      try have q1 : decide ((T : Int) < (U : Int)) = false := decide_eq_false (by omega)
      try have q2 : decide (U < T) = false := decide_eq_false (by omega)
      try have q3 : decide (T < U) = false := decide_eq_false (by omega)
      clear o3
      go_wp2_with fail
      refine (pn.tier _ (4 * n) (by unfold In64; omega)).mono ?_
      rintro _ w4 ⟨rfl, hb4⟩
      rw [hT4]
      have HC4 := Lib.hid (HC3.out.up hb4)
      have HB4 : Hid (Below w.heap.size w w4) := Lib.hid (HB3.out.trans (hb4.mono HB3.out.size))
      clear hb4 HB3 HC3 c0 c1 d0 d1
      have c0 := HC4.out.c0
      have c1 := HC4.out.c1
      have d0 := HC4.out.d0
      have d1 := HC4.out.d1
      go_wp2_with fail
      have HC5 := HC4
      have HB5 := HB4
      clear HC4 HB4
  case' inr.inr.inl =>
    have e1 : decide (n < 1) = false := decide_eq_false (by omega)
    have e2 : decide (0 < n) = true := decide_eq_true (by omega)
    have e5 : decide (n < 1099511627776) = true := decide_eq_true (by omega)
    have e3 : decide (4 ≤ n) = true := decide_eq_true (by omega)
    have hT4 := H4 (by omega)
    obtain ⟨T', hT'⟩ : ∃ T', T = T' + 1 := ⟨tierI (n / 4), HD hA.1⟩
    have hTd : tierI (n / 4) = T' := by have := HD hA.1; omega
    subst hT'
    clear H4 HD HL
    rcases HORD with ⟨o1, o2, o3⟩ | ⟨o1, o2, o3⟩ | ⟨o1, o2, o3⟩
    all_goals
      try have q0 : decide ((U : Int) < (T' : Int) + 1) = false := decide_eq_false (by omega)
      try have q1 : decide ((T' : Int) + 1 < (U : Int)) = false := decide_eq_false (by omega)
      try have q2 : decide (U < T' + 1) = false := decide_eq_false (by omega)
      try have q3 : decide (T' + 1 < U) = false := decide_eq_false (by omega)
      clear o3
      go_wp2_with fail
      refine (pn.tier _ (4 * n) (by unfold In64; omega)).mono ?_
      rintro _ w4 ⟨rfl, hb4⟩
      rw [hT4]
      have HC4 := Lib.hid (HC3.out.up hb4)
      have HB4 : Hid (Below w.heap.size w w4) := Lib.hid (HB3.out.trans (hb4.mono HB3.out.size))
      clear hb4 HB3 HC3 c0 c1 d0 d1
      have c0 := HC4.out.c0
      have c1 := HC4.out.c1
      have d0 := HC4.out.d0
      have d1 := HC4.out.d1
      go_wp2_with fail
      refine (pn.tier _ (n / 4) (by unfold In64; omega)).mono ?_
      rintro _ w5 ⟨rfl, hb5⟩
      rw [hTd]
      have HC5 := Lib.hid (HC4.out.up hb5)
      have HB5 : Hid (Below w.heap.size w w5) := Lib.hid (HB4.out.trans (hb5.mono HB4.out.size))
      clear hb5 HB4 HC4 c0 c1 d0 d1
      have c0 := HC5.out.c0
      have c1 := HC5.out.c1
      have d0 := HC5.out.d0
      have d1 := HC5.out.d1
      go_wp2_with fail
  case' inr.inr.inr =>
    have e1 : decide (n < 1) = false := decide_eq_false (by omega)
    have e2 : decide (0 < n) = true := decide_eq_true (by omega)
    have e5 : decide (n < 1099511627776) = false := decide_eq_false (by omega)
    have e3 : decide (4 ≤ n) = true := decide_eq_true (by omega)
    obtain ⟨T', hT'⟩ : ∃ T', T = T' + 1 := ⟨tierI (n / 4), HD (by omega)⟩
    have hTd : tierI (n / 4) = T' := by have := HD (by omega); omega
    subst hT'
    clear H4 HD HL
    rcases HORD with ⟨o1, o2, o3⟩ | ⟨o1, o2, o3⟩ | ⟨o1, o2, o3⟩
    all_goals
      try have q0 : decide ((U : Int) < (T' : Int) + 1) = false := decide_eq_false (by omega)
      try have q1 : decide ((T' : Int) + 1 < (U : Int)) = false := decide_eq_false (by omega)
      try have q2 : decide (U < T' + 1) = false := decide_eq_false (by omega)
      try have q3 : decide (T' + 1 < U) = false := decide_eq_false (by omega)
      clear o3
      have HC4 := HC3
      have HB4 := HB3
      clear HC3 HB3
      go_wp2_with fail
      refine (pn.tier _ (n / 4) (by unfold In64; omega)).mono ?_
      rintro _ w5 ⟨rfl, hb5⟩
      rw [hTd]
      have HC5 := Lib.hid (HC4.out.up hb5)
      have HB5 : Hid (Below w.heap.size w w5) := Lib.hid (HB4.out.trans (hb5.mono HB4.out.size))
      clear hb5 HB4 HC4 c0 c1 d0 d1
      have c0 := HC5.out.c0
      have c1 := HC5.out.c1
      have d0 := HC5.out.d0
      have d1 := HC5.out.d1
      go_wp2_with fail
  all_goals
    refine (pn.gone _ (A, kk, c) l (min p q) (HS.out.below HB5.out) hm HLO.out hl).mono ?_
    rintro _ w6 ⟨⟨A6, n6, c6⟩, rfl, hs6, hb6⟩
    have HS6 := Lib.hid hs6
    have HC6 := Lib.hid (HC5.out.up hb6)
    have HB6 : Hid (Below w.heap.size w w6) := Lib.hid (HB5.out.trans (hb6.mono HB5.out.size))
    clear hb6 hs6 HB5 HC5 c0 c1 d0 d1
    have d0 := HC6.out.d0
    have d1 := HC6.out.d1
    unfold slV
    go_wp2_with fail
    refine (pn.gone _ (A, kk, c) l (max p q) (HS.out.below HB6.out) hm HHI.out hl).mono ?_
    rintro _ w7 ⟨⟨A7, n7, c7⟩, rfl, hs7, hb7⟩
    have HS7 := Lib.hid hs7
    have HS6' := Lib.hid (HS6.out.below hb7)
    have HB7 : Hid (Below w.heap.size w w7) := Lib.hid (HB6.out.trans (hb7.mono HB6.out.size))
    clear hb7 hs7 HS6 HB6 HC6 d0 d1
    rw [HGA.out] at HS6'
    unfold slV
    generalize gone (l.map Sg.most) (max p q) = Y at *
    generalize (fun i => decide ((l.map Sg.most).getD i 0 < min p q)) = P at *
    clear HGA
    have hn6 := HS6'.out.len
    have hn7 := HS7.out.len
    have hc6 := HS6'.out.le
    have hc7 := HS7.out.le
    have hm6 := HS6'.out.cap
    have hm7 := HS7.out.cap
    simp only at hn6 hn7 hc6 hc7 hm6 hm7
    unfold maxLen at hm6 hm7
    have HXR := Lib.hid HS6'.out.rd
    have HYR := Lib.hid HS7.out.rd
    clear HS6' HS7
    subst hn6 hn7
    go_wp2
    have HML := Lib.hid (mt_le P Y)
    have HME := Lib.hid (mt_end P Y)
    go_loopw [14, 15] (fun v u wr => KRel w7 P Y v u wr) (fun _ u _ => Y.length - (intOf u).toNat)
    case atStart => exact ⟨0, Nat.zero_le _, rfl, rfl, Lib.hid (Below.refl _ _)⟩
    case round =>
      obtain ⟨i, hi, rfl, rfl, HBr⟩ := hrel
      by_cases hlt : i < Y.length
      · obtain ⟨g2, o2, rfl, hg2, hc2⟩ := HYR.out (by simp; omega)
        have l0 := cell_up HBr.out (p := ⟨g2, o2 + i, none⟩) hg2 (cellIV hc2 hlt)
        have HSU := Lib.hid (mt_succ P Y hlt)
        have HYS := Lib.hid (mt_yes P Y hlt)
        have HNO := Lib.hid (fun h v => mt_no P Y hlt h (v := v))
        have hml := HML.out i
        generalize (Y.filter P) = X at *
        generalize Y[i] = y at *
        generalize hk : mt P Y i = k at *
        by_cases hP : P y = true
        · have h1 := HYS.out hP
          obtain ⟨hkl, hkv⟩ := List.getElem?_eq_some_iff.1 h1
          have HS1 : Hid (mt P Y (i + 1) = k + 1) := Lib.hid (by rw [HSU.out, if_pos hP])
          obtain ⟨g1, o1, rfl, hg1, hc1⟩ := HXR.out (by simp; omega)
          have k0 := cell_up HBr.out (p := ⟨g1, o1 + k, none⟩) hg1 (cellIV hc1 hkl)
          rw [hkv] at k0
          have j1 : decide ((k : Int) < (X.length : Int)) = true := decide_eq_true (by omega)
          clear hc1 hc2 HYS HNO HSU h1 hkv hP HXR HYR
          go_wp2
          go_quiet (fail)
          go_wp2
          exact ⟨⟨i + 1, hlt, by rw [HS1.out]; go_num, by go_num, Lib.hid (below_drewN HBr.out _)⟩, by simp [intOf]; omega⟩
        · have HS1 : Hid (mt P Y (i + 1) = k) := Lib.hid (by rw [HSU.out, if_neg hP]; rfl)
          by_cases hkl : k < X.length
          · obtain ⟨g1, o1, rfl, hg1, hc1⟩ := HXR.out (by simp; omega)
            have k0 := cell_up HBr.out (p := ⟨g1, o1 + k, none⟩) hg1 (cellIV hc1 hkl)
            have hne := HNO.out (by simpa using hP) X[k] (List.getElem?_eq_getElem hkl)
            have j1 : decide ((k : Int) < (X.length : Int)) = true := decide_eq_true (by omega)
            generalize X[k] = x at *
            have j2 : ((x : Int) == (y : Int)) = false := by simp; omega
            clear hc1 hc2 HYS HNO HSU hP HXR HYR hne
            go_wp2
            go_quiet (fail)
            go_wp2
            exact ⟨⟨i + 1, hlt, by rw [HS1.out], by go_num, Lib.hid (below_drewN HBr.out _)⟩, by simp [intOf]; omega⟩
          · have j1 : decide ((k : Int) < (X.length : Int)) = false := decide_eq_false (by omega)
            clear hc2 HYS HNO HSU hP HXR HYR
            go_wp2
            go_quiet (fail)
            go_wp2
            exact ⟨⟨i + 1, hlt, by rw [HS1.out], by go_num, Lib.hid (below_drewN HBr.out _)⟩, by simp [intOf]; omega⟩
      · have hd : decide ((i : Int) < (Y.length : Int)) = false := decide_eq_false (by omega)
        have hie : i = Y.length := by omega
        subst hie
        rw [HME.out]
        have HB8 : Hid (Below w.heap.size w wr) := Lib.hid (HB7.out.trans (HBr.out.mono HB7.out.size))
        clear HXR HYR HML HME
        go_wp2_with fail
        refine (pn.gone _ (A, kk, c) l (-9223372036854775808) (HS.out.below HB8.out) hm (by unfold In64; omega) hl).mono ?_
        rintro _ w8 ⟨⟨A8, n8, c8⟩, rfl, hs8, hb8⟩
        rw [HGN.out] at hs8
        have hn8 : n8 = 0 := hs8.len
        subst hn8
        have HB9 : Hid (Below w.heap.size w w8) := Lib.hid (HB8.out.trans (hb8.mono HB8.out.size))
        clear hb8 hs8 HB8
        unfold slV
        go_wp2
        go_ret
        exact ⟨rfl, HB9.out⟩
