/- The contracts of the program's digit, bounds, times and often. Conditions: the reader lies in memory. · The library's ContainsRune over a text of ASCII that has at least four bytes: is the rune one of its bytes? Condition: a rune that UTF-8 has bytes for. -/
import Derived.Test.YtdmbgjpidlllcaaRqMems
import Derived.Test.YtdmbgjpidlllcaaRqShelf
import Derived.WalkMore
import Derived.Laws.Runes
import Derived.Test.YtdmbgjpidlllcaaRxSpecs
namespace Go.Proofs.Ytdmbgjpidlllcaa.RqTimes
open Go Go.RowKit Words AppN Km Mo_ RxSpec RxEq RxMem RqMem RqNeed

/-- What stands behind an opening brace. -/
def bnd (rs : List Nat) : Option (Nat × Nat × List Nat) :=
  match digit rs with
  | none => none
  | some (lo, r1) =>
    match (if hd r1 44 then digit r1.tail else some (lo, r1)) with
    | none => none
    | some (hi, r2) => if hd r2 125 ∧ lo ≤ hi then some (lo, hi, r2.tail) else none
/-- A repetition, if one stands there. -/
def tms (rs : List Nat) : Option (Nat × Int × Bool × List Nat) :=
  if hd rs 42 then some (0, -1, true, rs.tail)
  else if hd rs 43 then some (1, -1, true, rs.tail)
  else if hd rs 63 then some (0, 1, true, rs.tail)
  else if hd rs 123 then
    match bnd rs.tail with
    | none => none
    | some (lo, hi, r1) => some (lo, (hi : Int), true, r1)
  else some (0, 0, false, rs)
theorem repS_tms (p : Pat) (rs : List Nat) : repS p rs = match tms rs with
    | none => none
    | some (lo, hi, ok, r1) => if ok then some (.rep p lo hi, r1) else some (p, r1) := by
  cases rs with
  | nil => rfl
  | cons r t =>
    unfold repS tms
    simp only [hd_cons, List.tail_cons]
    by_cases h1 : r = 42
    · subst h1; rfl
    by_cases h2 : r = 43
    · subst h2; rfl
    by_cases h3 : r = 63
    · subst h3; rfl
    have e1 : (r == 42) = false := by simpa using h1
    have e2 : (r == 43) = false := by simpa using h2
    have e3 : (r == 63) = false := by simpa using h3
    rw [e1, e2, e3]
    simp only [Bool.false_eq_true, if_false]
    by_cases h4 : r = 123
    · subst h4
      simp only [beq_self_eq_true, if_true]
      unfold bnd
      cases digit t with
      | none => rfl
      | some x =>
        obtain ⟨lo, r1⟩ := x
        simp only
        cases (if hd r1 44 = true then digit r1.tail else some (lo, r1)) with
        | none => rfl
        | some y =>
          obtain ⟨hi, r2⟩ := y
          simp only
          by_cases h5 : hd r2 125 = true ∧ lo ≤ hi
          · rw [if_pos h5, if_pos h5]; rfl
          · rw [if_neg h5, if_neg h5]
    · have e4 : (r == 123) = false := by simpa using h4
      rw [e4]
      rfl
theorem digit_small {rs : List Nat} {n : Nat} {r1 : List Nat} (h : digit rs = some (n, r1)) : n ≤ 8 ∧ ∃ r, rs = r :: r1 ∧ n + 48 = r := by
  cases rs with
  | nil => cases h
  | cons r t => rw [digit_cons] at h; split at h <;> cases h; exact ⟨by omega, r, rfl, by omega⟩
section
variable {B : Nat} {w w' : World} {K K' : Nat → Nat} {o p : Nat} {s s' : Sl} {rs rs' : List Nat} {op dp op' dp' : Nat} {ms : List NM} {v : Value}
def DP (B : Nat) (K : Nat → Nat) (o p : Nat) (op dp : Nat) (ms : List NM) (v : Value) (w : World) (ans : Option (Nat × List Nat)) (e : Ending) (w' : World) : Prop :=
  match ans with
  | none => FP K o w e w'
  | some (n, r1) => e = .returned (.int .i64 (n : Int)) ∧ ∃ s', RQ B w' K o p s' r1 op dp ms v ∧ Mo K K (fun x => x = o) w w'
set_option maxHeartbeats 1600000 in
set_option maxRecDepth 100000 in
theorem digit_any (h : RQ B w K o p s rs op dp ms v) (hr : ∀ r ∈ rs, r ≤ 1114111) : Calls Try.prog 56 #[.pointer (some ⟨p, 0, none⟩)] w (DP B K o p op dp ms v w (digit rs)) := by
  cases rs with
  | nil =>
    have HC := next_no h
    show Calls _ _ _ _ (DP B K o p op dp ms v w none)
    unfold DP
    simp only
    clear h
    go_enter Try.func56, Try.ntmps56
    go_wp2_with fail
    refine HC.mono ?_
    rintro _ w1 ⟨rfl, h1⟩
    exact ⟨rfl, rfl, h1⟩
  | cons r t =>
    have HC := next_ok h
    have hr1 := hr r (by simp)
    have hw0 : wrap64 (r : Int) = (r : Int) := by unfold wrap64; omega
    obtain ⟨z, hz⟩ : ∃ z : Int, (r : Int) - 48 = z := ⟨_, rfl⟩
    have hw : wrap64 ((r : Int) - 48) = z := by unfold wrap64; omega
    rw [digit_cons]
    by_cases hd : 48 ≤ r ∧ r ≤ 56
    · rw [if_pos hd]
      unfold DP
      simp only
      have d1 : decide ((0 : Int) ≤ z) = true := decide_eq_true (by omega)
      have d2 : decide (z ≤ 8) = true := decide_eq_true (by omega)
      have hn : ((r - 48 : Nat) : Int) = z := by omega
      rw [hn]
      clear h hr hr1 hd hn hz
      go_enter Try.func56, Try.ntmps56
      go_wp2_with fail
      refine HC.mono ?_
      rintro _ w1 ⟨rfl, h1⟩
      go_wp2_with (go_at_call 18; refine (need_ok _).mono ?_; rintro e w' ⟨rfl, rfl⟩)
      go_ret
      exact ⟨rfl, h1⟩
    · rw [if_neg hd]
      unfold DP
      simp only
      by_cases hl : 48 ≤ r
      · have d1 : decide ((0 : Int) ≤ z) = true := decide_eq_true (by omega)
        have d2 : decide (z ≤ 8) = false := decide_eq_false (by omega)
        clear h hr hr1 hd hl hz
        go_enter Try.func56, Try.ntmps56
        go_wp2_with fail
        refine HC.mono ?_
        rintro _ w1 ⟨rfl, s', h1, hm⟩
        go_wp2_with (go_at_call 18; refine (need_no _).mono ?_; rintro e w' ⟨rfl, rfl⟩)
        exact ⟨rfl, rfl, K, hm⟩
      · have d1 : decide ((0 : Int) ≤ z) = false := decide_eq_false (by omega)
        clear h hr hr1 hd hl hz
        go_enter Try.func56, Try.ntmps56
        go_wp2_with fail
        refine HC.mono ?_
        rintro _ w1 ⟨rfl, s', h1, hm⟩
        go_wp2_with (go_at_call 18; refine (need_no _).mono ?_; rintro e w' ⟨rfl, rfl⟩)
        exact ⟨rfl, rfl, K, hm⟩
theorem hd_yes {rs : List Nat} {c : Nat} (h : hd rs c = true) : ∃ t, rs = c :: t ∧ rs.tail = t := by
  cases rs with
  | nil => cases h
  | cons r t => rw [hd_cons] at h; obtain rfl : r = c := by simpa using h
                exact ⟨t, rfl, rfl⟩
def BP (B : Nat) (K : Nat → Nat) (o p : Nat) (op dp : Nat) (ms : List NM) (v : Value) (w : World) (ans : Option (Nat × Nat × List Nat)) (e : Ending) (w' : World) : Prop :=
  match ans with
  | none => FP K o w e w'
  | some (lo, hi, r1) => e = .returned (.tuple #[.int .i64 (lo : Int), .int .i64 (hi : Int)]) ∧ ∃ s', RQ B w' K o p s' r1 op dp ms v ∧ Mo K K (fun x => x = o) w w'
set_option maxHeartbeats 3200000 in
set_option maxRecDepth 100000 in
theorem bounds_any (h : RQ B w K o p s rs op dp ms v) (hr : ∀ r ∈ rs, r ≤ 1114111) : Calls Try.prog 48 #[.pointer (some ⟨p, 0, none⟩)] w (BP B K o p op dp ms v w (bnd rs)) := by
  obtain ⟨ans, ha⟩ : ∃ ans, bnd rs = ans := ⟨_, rfl⟩
  rw [ha]
  unfold bnd at ha
  have HC := digit_any h hr
  cases hd1 : digit rs with
  | none =>
    rw [hd1] at ha HC
    subst ha
    unfold BP
    unfold DP at HC
    simp only at HC ⊢
    clear h hd1
    go_enter Try.func48, Try.ntmps48
    go_wp2_with fail
    refine HC.mono ?_
    rintro _ w1 ⟨rfl, h1⟩
    exact ⟨rfl, rfl, h1⟩
  | some x =>
    obtain ⟨lo, r1⟩ := x
    rw [hd1] at ha HC
    obtain ⟨hlo, r, rfl, _⟩ := digit_small hd1
    have HR : Hid (∀ x ∈ r1.tail, x ≤ 1114111) := Lib.hid fun x hx => hr x (List.mem_cons_of_mem _ (List.mem_of_mem_tail hx))
    unfold DP at HC
    simp only at HC ha
    have HA := Lib.hid ha
    clear h hr hd1 ha
    go_enter Try.func48, Try.ntmps48
    go_wp2_with fail
    refine HC.mono ?_
    rintro _ w1 ⟨rfl, s1, hq1, hm1⟩
    have HM1 := Lib.hid hm1
    clear HC hm1
    -- what is left behind the second number, if there is one
    have hfin : ∀ (hi : Nat) (r2 : List Nat) (s2 : Sl) (w2 : World), hi ≤ 8 → ans = (if hd r2 125 = true ∧ lo ≤ hi then some (lo, hi, r2.tail) else none) → RQ B w2 K o p s2 r2 op dp ms v → Mo K K (fun x => x = o) w w2 →
        (hd r2 125 = true ∧ lo ≤ hi ∧ ans = some (lo, hi, r2.tail) ∧ ∃ t, r2 = 125 :: t ∧ r2.tail = t) ∨ (hd r2 125 = true ∧ ¬ lo ≤ hi ∧ ans = none ∧ ∃ t, r2 = 125 :: t ∧ r2.tail = t) ∨ (hd r2 125 = false ∧ ans = none) := by
      intro hi r2 s2 w2 _ he _ _
      by_cases h1 : hd r2 125 = true
      · by_cases h2 : lo ≤ hi
        · rw [if_pos ⟨h1, h2⟩] at he; exact .inl ⟨h1, h2, he, hd_yes h1⟩
        · rw [if_neg (fun h => h2 h.2)] at he; exact .inr (.inl ⟨h1, h2, he, hd_yes h1⟩)
      · rw [if_neg (fun h => h1 h.1)] at he; exact .inr (.inr ⟨by simpa using h1, he⟩)
    have HFIN := Lib.hid hfin
    clear hfin
    by_cases h44 : hd r1 44 = true
    · obtain ⟨t, rfl, ht⟩ := hd_yes h44
      have HS := skip_yes 44 hq1
      have HA := HA.out
      rw [if_pos h44] at HA
      have HR := HR.out
      simp only [List.tail_cons] at HA HR
      clear h44 ht hq1
      go_wp2_with fail
      refine HS.mono ?_
      rintro _ w2 ⟨rfl, s2, hq2, hm2⟩
      have HM2 := Lib.hid (HM1.out.trans hm2)
      have HC2 := digit_any hq2 HR
      clear HS hm2 hq2
      cases hd2 : digit t with
      | none =>
        rw [hd2] at HA HC2
        simp only at HA
        subst HA
        unfold DP at HC2
        simp only at HC2
        unfold BP
        simp only
        go_wp2_with fail
        refine HC2.mono ?_
        rintro _ w3 ⟨rfl, K3, h3⟩
        exact ⟨rfl, rfl, K3, HM2.out.trans h3⟩
      | some y =>
        obtain ⟨hi, r2⟩ := y
        have hhi := (digit_small hd2).1
        rw [hd2] at HA HC2
        unfold DP at HC2
        simp only at HA HC2
        have HA := Lib.hid HA
        clear hd2 HR
        go_wp2_with fail
        refine HC2.mono ?_
        rintro _ w3 ⟨rfl, s3, hq3, hm3⟩
        have HM3 := Lib.hid (HM2.out.trans hm3)
        clear HC2 hm3
        rcases HFIN.out hi r2 s3 w3 hhi HA.out.symm hq3 HM3.out with ⟨h1, h2, h3, t2, rfl, ht2⟩ | ⟨h1, h2, h3, t2, rfl, ht2⟩ | ⟨h1, h3⟩
        · have HS := skip_yes 125 hq3
          have d1 : decide ((lo : Int) ≤ (hi : Int)) = true := decide_eq_true (by omega)
          have d2 : decide (lo ≤ hi) = true := decide_eq_true h2
          have HE := Lib.hid h3
          clear h1 h2 ht2 hq3 h3
          go_wp2_with fail
          refine HS.mono ?_
          rintro _ w4 ⟨rfl, s4, hq4, hm4⟩
          have HQ4 := Lib.hid hq4
          have HM4 := Lib.hid (HM3.out.trans hm4)
          clear hq4 hm4 HS
          go_wp2_with (go_at_call 18; refine (need_ok _).mono ?_; rintro e w' ⟨rfl, rfl⟩)
          go_ret2
          rw [HE.out]
          exact ⟨rfl, s4, HQ4.out, HM4.out⟩
        · have HS := skip_yes 125 hq3
          have d1 : decide ((lo : Int) ≤ (hi : Int)) = false := decide_eq_false (by omega)
          have d2 : decide (lo ≤ hi) = false := decide_eq_false h2
          have HE := Lib.hid h3
          clear h1 h2 ht2 hq3 h3
          go_wp2_with fail
          refine HS.mono ?_
          rintro _ w4 ⟨rfl, s4, hq4, hm4⟩
          have HM4 := Lib.hid (HM3.out.trans hm4)
          clear hq4 hm4 HS
          go_wp2_with (go_at_call 18; refine (need_no _).mono ?_; rintro e w' ⟨rfl, rfl⟩)
          rw [HE.out]
          exact ⟨rfl, rfl, K, HM4.out⟩
        · have HS := skip_no hq3 125 h1
          have HE := Lib.hid h3
          clear h1 hq3 h3
          go_wp2_with fail
          refine HS.mono ?_
          rintro _ w4 ⟨rfl, hw4⟩
          subst hw4
          clear HS
          go_wp2_with (go_at_call 18; refine (need_no _).mono ?_; rintro e w' ⟨rfl, rfl⟩)
          rw [HE.out]
          exact ⟨rfl, rfl, K, HM3.out⟩
    · have h44' : hd r1 44 = false := by simpa using h44
      have HS := skip_no hq1 44 h44'
      have HA := HA.out
      rw [if_neg h44] at HA
      simp only at HA
      have HA := Lib.hid HA
      clear h44 h44'
      go_wp2_with fail
      refine HS.mono ?_
      rintro _ w2 ⟨rfl, hw2⟩
      subst hw2
      clear HS
      rcases HFIN.out lo r1 s1 w2 hlo HA.out.symm hq1 HM1.out with ⟨h1, h2, h3, t2, rfl, ht2⟩ | ⟨h1, h2, h3, t2, rfl, ht2⟩ | ⟨h1, h3⟩
      · have HS := skip_yes 125 hq1
        have d1 : decide ((lo : Int) ≤ (lo : Int)) = true := decide_eq_true (by omega)
        have HE := Lib.hid h3
        clear h1 h2 ht2 hq1 h3
        go_wp2_with fail
        refine HS.mono ?_
        rintro _ w4 ⟨rfl, s4, hq4, hm4⟩
        have HQ4 := Lib.hid hq4
        have HM4 := Lib.hid (HM1.out.trans hm4)
        clear hq4 hm4 HS
        go_wp2_with (go_at_call 18; refine (need_ok _).mono ?_; rintro e w' ⟨rfl, rfl⟩)
        go_ret2
        rw [HE.out]
        exact ⟨rfl, s4, HQ4.out, HM4.out⟩
      · omega
      · have HS := skip_no hq1 125 h1
        have HE := Lib.hid h3
        clear h1 hq1 h3
        go_wp2_with fail
        refine HS.mono ?_
        rintro _ w4 ⟨rfl, hw4⟩
        subst hw4
        clear HS
        go_wp2_with (go_at_call 18; refine (need_no _).mono ?_; rintro e w' ⟨rfl, rfl⟩)
        rw [HE.out]
        exact ⟨rfl, rfl, K, HM1.out⟩
def MP (B : Nat) (K : Nat → Nat) (o p : Nat) (op dp : Nat) (ms : List NM) (v : Value) (w : World) (ans : Option (Nat × Int × Bool × List Nat)) (e : Ending) (w' : World) : Prop :=
  match ans with
  | none => FP K o w e w'
  | some (lo, hi, ok, r1) => e = .returned (.tuple #[.int .i64 (lo : Int), .int .i64 hi, .bool ok]) ∧ ∃ s', RQ B w' K o p s' r1 op dp ms v ∧ Mo K K (fun x => x = o) w w'
set_option maxHeartbeats 3200000 in
set_option maxRecDepth 100000 in
theorem times_any (h : RQ B w K o p s rs op dp ms v) (hr : ∀ r ∈ rs, r ≤ 1114111) : Calls Try.prog 38 #[.pointer (some ⟨p, 0, none⟩)] w (MP B K o p op dp ms v w (tms rs)) := by
  unfold tms
  by_cases h1 : hd rs 42 = true
  · rw [if_pos h1]
    obtain ⟨t, rfl, ht⟩ := hd_yes h1
    have HS := skip_yes 42 h
    rw [ht]
    unfold MP
    simp only
    clear h h1 ht
    go_enter Try.func38, Try.ntmps38
    go_wp2_with fail
    refine HS.mono ?_
    rintro _ w1 ⟨rfl, hq1⟩
    clear HS
    go_wp2
    go_ret3
    exact ⟨rfl, hq1⟩
  rw [if_neg h1]
  have H1 := skip_no h 42 (by simpa using h1)
  by_cases h2 : hd rs 43 = true
  · rw [if_pos h2]
    obtain ⟨t, rfl, ht⟩ := hd_yes h2
    have HS := skip_yes 43 h
    rw [ht]
    unfold MP
    simp only
    clear h h1 h2 ht
    go_enter Try.func38, Try.ntmps38
    go_wp2_with fail
    refine H1.mono ?_
    rintro _ w1 ⟨rfl, hw1⟩
    subst hw1
    go_wp2_with fail
    refine HS.mono ?_
    rintro _ w1 ⟨rfl, hq1⟩
    clear HS H1
    go_wp2
    go_ret3
    exact ⟨rfl, hq1⟩
  rw [if_neg h2]
  have H2 := skip_no h 43 (by simpa using h2)
  by_cases h3 : hd rs 63 = true
  · rw [if_pos h3]
    obtain ⟨t, rfl, ht⟩ := hd_yes h3
    have HS := skip_yes 63 h
    rw [ht]
    unfold MP
    simp only
    clear h h1 h2 h3 ht
    go_enter Try.func38, Try.ntmps38
    go_wp2_with fail
    refine H1.mono ?_
    rintro _ w1 ⟨rfl, hw1⟩
    subst hw1
    go_wp2_with fail
    refine H2.mono ?_
    rintro _ w1 ⟨rfl, hw1⟩
    subst hw1
    go_wp2_with fail
    refine HS.mono ?_
    rintro _ w1 ⟨rfl, hq1⟩
    clear HS H1 H2
    go_wp2
    go_ret3
    exact ⟨rfl, hq1⟩
  rw [if_neg h3]
  have H3 := skip_no h 63 (by simpa using h3)
  by_cases h4 : hd rs 123 = true
  · rw [if_pos h4]
    obtain ⟨t, rfl, ht⟩ := hd_yes h4
    have HS := skip_yes 123 h
    rw [ht]
    have HR := Lib.hid (fun r (h : r ∈ t) => hr r (List.mem_cons_of_mem _ h))
    clear h h1 h2 h3 h4 ht hr
    cases hb : bnd t with
    | none =>
      have HB := Lib.hid hb
      unfold MP
      simp only
      clear hb
      go_enter Try.func38, Try.ntmps38
      go_wp2_with fail
      refine H1.mono ?_
      rintro _ w1 ⟨rfl, hw1⟩
      subst hw1
      go_wp2_with fail
      refine H2.mono ?_
      rintro _ w1 ⟨rfl, hw1⟩
      subst hw1
      go_wp2_with fail
      refine H3.mono ?_
      rintro _ w1 ⟨rfl, hw1⟩
      subst hw1
      go_wp2_with fail
      refine HS.mono ?_
      rintro _ w1 ⟨rfl, s1, hq1, hm1⟩
      have HC := bounds_any hq1 HR.out
      rw [HB.out] at HC
      unfold BP at HC
      simp only at HC
      clear HS H1 H2 H3
      go_wp2_with fail
      refine HC.mono ?_
      rintro _ w2 ⟨rfl, K2, hm2⟩
      exact ⟨rfl, rfl, K2, hm1.trans hm2⟩
    | some x =>
      obtain ⟨lo, hi, r1⟩ := x
      have HB := Lib.hid hb
      unfold MP
      simp only
      clear hb
      go_enter Try.func38, Try.ntmps38
      go_wp2_with fail
      refine H1.mono ?_
      rintro _ w1 ⟨rfl, hw1⟩
      subst hw1
      go_wp2_with fail
      refine H2.mono ?_
      rintro _ w1 ⟨rfl, hw1⟩
      subst hw1
      go_wp2_with fail
      refine H3.mono ?_
      rintro _ w1 ⟨rfl, hw1⟩
      subst hw1
      go_wp2_with fail
      refine HS.mono ?_
      rintro _ w1 ⟨rfl, s1, hq1, hm1⟩
      have HC := bounds_any hq1 HR.out
      rw [HB.out] at HC
      unfold BP at HC
      simp only at HC
      have HM1 := Lib.hid hm1
      clear HS H1 H2 H3 hq1 hm1
      go_wp2_with fail
      refine HC.mono ?_
      rintro _ w2 ⟨rfl, s2, hq2, hm2⟩
      have HQ2 := Lib.hid hq2
      have HM2 := Lib.hid (HM1.out.trans hm2)
      clear HC hq2 hm2
      go_wp2
      go_ret3
      exact ⟨rfl, s2, HQ2.out, HM2.out⟩
  rw [if_neg h4]
  have H4 := skip_no h 123 (by simpa using h4)
  have HQ := Lib.hid h
  unfold MP
  simp only
  clear h h1 h2 h3 h4
  go_enter Try.func38, Try.ntmps38
  go_wp2_with fail
  refine H1.mono ?_
  rintro _ w1 ⟨rfl, hw1⟩
  subst hw1
  go_wp2_with fail
  refine H2.mono ?_
  rintro _ w1 ⟨rfl, hw1⟩
  subst hw1
  go_wp2_with fail
  refine H3.mono ?_
  rintro _ w1 ⟨rfl, hw1⟩
  subst hw1
  go_wp2_with fail
  refine H4.mono ?_
  rintro _ w1 ⟨rfl, hw1⟩
  subst hw1
  clear H1 H2 H3 H4
  go_wp2
  go_ret3
  exact ⟨rfl, s, HQ.out, Mo.refl _ _ _⟩
end
end Go.Proofs.Ytdmbgjpidlllcaa.RqTimes

namespace Go.Proofs.Ytdmbgjpidlllcaa.RqCont
open Go Go.RowKit Words AppN Km Mo_ RxSpec RxEq RxMem RqMem RqNeed

theorem indexByte_has (l : List UInt8) (c : UInt8) : decide (0 ≤ Lib.indexByte l c) = l.contains c := by
  induction l with
  | nil => simp [Lib.indexByte]
  | cons b l ih =>
    rw [Lib.indexByte]
    have hge := Lib.indexByte_ge l c
    by_cases hb : b == c
    · rw [if_pos hb]
      have : b = c := by simpa using hb
      simp [this]
    · rw [if_neg hb]
      have hne : ¬ c = b := fun e => hb (by simp [e])
      rw [List.contains_cons]
      have h2 : (c == b) = false := by simpa using hne
      rw [h2, Bool.false_or, ← ih]
      by_cases h3 : Lib.indexByte l c == -1
      · rw [if_pos h3]
        have : Lib.indexByte l c = -1 := by simpa using h3
        rw [this]
      · rw [if_neg h3]
        have : Lib.indexByte l c ≠ -1 := by simpa using h3
        rw [Bool.eq_iff_iff]
        simp
        omega
theorem indexByte_no {l : List UInt8} {c : UInt8} (h : ∀ b ∈ l, b ≠ c) : Lib.indexByte l c = -1 := by
  have h1 := indexByte_has l c
  have h2 : l.contains c = false := by
    rw [← Bool.not_eq_true, List.contains_iff_mem]
    exact fun hm => h c hm rfl
  have := Lib.indexByte_ge l c
  rw [h2] at h1
  have : ¬ 0 ≤ Lib.indexByte l c := of_decide_eq_false h1
  omega
theorem index_at (s : ByteArray) (k : Nat) (hk : k < s.size) (w : World) : (Instr.index 9 (.string s) (.int .i64 (k : Int))).run Try.prog w = .ok (.int .u8 ((s[k]'hk).toNat : Int)) w := by
  rw [run_index_string w 9 s .i64 (k : Int) Try.underlying9]
  rw [dif_pos ⟨by omega, by omega⟩]
  rfl
theorem valid_sc {r : Nat} (h : UtSpec.sc r) : Utf8.valid (r : Int) = true ∧ Lib.validRune (r : Int) = true := by
  unfold UtSpec.sc at h
  unfold Utf8.valid Lib.validRune
  constructor
  · simp only [Bool.or_eq_true, Bool.and_eq_true, decide_eq_true_eq]; omega
  · rw [decide_eq_true_eq]; omega
/-- A text of ASCII, of a few bytes. -/
def Asc (s : ByteArray) : Prop := (∀ b ∈ s.data.toList, b.toNat < 128) ∧ 4 ≤ s.size ∧ s.size ≤ 100
theorem Asc.at_ {s : ByteArray} (h : Asc s) {k : Nat} (hk : k < s.size) : (s[k]'hk).toNat < 128 := h.1 _ (by
  have : s[k]'hk ∈ s.data := Array.getElem_mem (by simpa using hk)
  simpa using this)
def VRel (s : ByteArray) (w : World) (wr : World) : Prop := ∃ pos : Nat, wr.heap[w.heap.size]? = some (.stringIter s pos) ∧ Below w.heap.size w wr ∧ pos ≤ s.size
set_option maxHeartbeats 3200000 in
set_option maxRecDepth 100000 in
theorem index_no (s : ByteArray) (hs : Asc s) (r : Nat) (h : 128 ≤ r) (hv : UtSpec.sc r) (w : World) : Calls Try.prog 55 #[.string s, .int .i32 (r : Int)] w fun e w' => e = .returned (.int .i64 (-1)) ∧ Below w.heap.size w w' := by
  have HS := Lib.hid hs
  have hz1 := hs.2.1
  have hz2 := hs.2.2
  obtain ⟨v1, v2⟩ := valid_sc hv
  have d0 : decide ((0 : Int) ≤ (r : Int)) = true := decide_eq_true (by omega)
  have d1 : decide ((r : Int) < 128) = false := decide_eq_false (by omega)
  by_cases hr : r = 65533
  · subst hr
    clear d0 d1 h hs v1 v2 hv
    go_enter Try.func55, Try.ntmps55
    go_wp2
    go_loopw [] (fun wr => VRel s w wr) (fun wr => s.size - wr.iterPos w.heap.size)
    case atStart => exact ⟨0, World.iter_heap w s 0, (Below.refl _ w).alloc (Nat.le_refl _) _, Nat.zero_le _⟩
    case round =>
      obtain ⟨pos, hit, hb, hp'⟩ := hrel
      by_cases hp : pos < s.size
      · have hd := decode_ascii s pos hp (HS.out.at_ hp)
        obtain ⟨c, hc⟩ : ∃ c, (s[pos]'hp).toNat = c := ⟨_, rfl⟩
        have hc2 := HS.out.at_ hp
        rw [hc] at hd hc2
        have hnx : ∀ ty, (Instr.next (.pointer (some ⟨w.heap.size, 0, none⟩)) true ty).run Try.prog wr = _ := fun ty => Lib.run_next_any_at wr w.heap.size s pos ty hit hp
        rw [hd] at hnx
        have hit2 := Lib.iterAt_heap wr w.heap.size s pos (pos + 1) hit
        have HB := Lib.hid (Lib.below_iterAt hb (k := w.heap.size) (Nat.le_refl _) s (pos + 1))
        have hr5 : ((c : Int) == 65533) = false := by simp; omega
        clear hd hb hc
        go_wp2
        go_roundw
        case rel => exact ⟨pos + 1, hit2, HB.out, by omega⟩
        case measure =>
          simp only [World.iterPos, hit2, hit]
          omega
      · obtain rfl : pos = s.size := by omega
        have hnx : ∀ ty, (Instr.next (.pointer (some ⟨w.heap.size, 0, none⟩)) true ty).run Try.prog wr = _ := fun ty => Lib.run_next_end_at wr w.heap.size s s.size ty hit (Nat.lt_irrefl _)
        have HB := Lib.hid hb
        clear hb
        go_wp2
        go_ret
        exact ⟨rfl, HB.out⟩
  · have d2 : ((r : Int) == 65533) = false := by simp; omega
    obtain ⟨e1, e2, e3⟩ := encode_facts (r : Int) v1 (by omega)
    have hno : ∀ l : List UInt8, (∀ b ∈ l, b.toNat < 128) → ∀ b : UInt8, 128 ≤ b.toNat → Lib.indexByte l b = -1 := fun l hl b hb => indexByte_no fun c hc e => by have := hl c hc; rw [e] at this; omega
    obtain ⟨E, hE⟩ : ∃ E, Utf8.encode (r : Int) = E := ⟨_, rfl⟩
    rw [hE] at e1 e2 e3
    have hlast := e3 (by omega)
    have HCV := fun wz => Go.Proofs.Try.utf8_ValidRune (r : Int) wz
    rw [v2] at HCV
    clear h hv v1 v2 hr hs e3
    go_enter Try.func55, Try.ntmps55
    go_wp2_with (go_at_call 66; refine (HCV _).mono ?_; rintro e w' ⟨rfl, rfl⟩)
    have HIB := fun (l : List UInt8) (b : UInt8) (hl : ∀ b ∈ l, b.toNat < 128) (hb : 128 ≤ b.toNat) => Lib.hid (hno l hl b hb)
    obtain ⟨n, hn⟩ : ∃ n, E.size = n + 1 := ⟨E.size - 1, by omega⟩
    have hnE : n < E.size := by omega
    have hnS : n < s.size := by omega
    have HLAST : Hid (128 ≤ (E[n]'hnE).toNat) := Lib.hid (by
      have h9 : E.size - 1 = n := by omega
      simp only [h9] at hlast
      exact hlast)
    have HSN := Lib.hid (HS.out.at_ hnS)
    have hsz : (E.size : Int) = (n : Int) + 1 := by omega
    clear hlast hno e1 e2
    have hi1 := fun wz => index_at s n hnS wz
    have hi2 := fun wz => index_at E n hnE wz
    obtain ⟨c1, hc1⟩ : ∃ c, (s[n]'hnS).toNat = c := ⟨_, rfl⟩
    obtain ⟨c2, hc2⟩ : ∃ c, E[n]'hnE = c := ⟨_, rfl⟩
    have hne : ((c1 : Int) != (c2.toNat : Int)) = true := by
      have := HLAST.out; have := HSN.out; rw [hc1] at this; rw [hc2] at *; simp; omega
    simp only [hc1, hc2] at hi1 hi2
    have HL2 : Hid (128 ≤ c2.toNat) := Lib.hid (by have := HLAST.out; rwa [hc2] at this)
    clear HLAST HSN hc1 hc2
    have HB : ∀ wz, Hid (Calls Try.prog 65 #[.string (s.extract (n + 1) s.size), .int .u8 (c2.toNat : Int)] wz fun e w' => e = .returned (.int .i64 (-1)) ∧ w' = wz) := fun wz => Lib.hid (by
      have h := Go.Proofs.Try.strings_IndexByte (s.extract (n + 1) s.size) (c2.toNat : Int) wz
      have e1 : ((c2.toNat : Int).toNat).toUInt8 = c2 := by simp
      rw [e1, (HIB _ c2 (fun b hb => HS.out.1 b (by
        simp only [ByteArray.data_extract, Array.toList_extract, List.extract_eq_take_drop] at hb
        exact List.mem_of_mem_drop (List.mem_of_mem_take hb))) HL2.out).out] at h
      exact h)
    have hsl : ∀ wz, (Instr.slice 9 (.string s) (some (.int .i64 ((n : Int) + 1))) none none).run Try.prog wz = .ok (.string (s.extract (n + 1) s.size)) wz := fun wz => by
      have e1 : (n : Int) + 1 ≤ (s.size : Int) := by omega
      have e2 : (0 : Int) ≤ (n : Int) + 1 := by omega
      have e3 : ((n : Int) + 1).toNat = n + 1 := by omega
      go_simp
    have hw1 : IntKind.i64.wrap ((n : Int) + 1) = (n : Int) + 1 := by rw [IntKind.wrap_i64]; omega
    have hw2 : wrap64 ((n : Int) + 1) = (n : Int) + 1 := by unfold wrap64; omega
    go_wp2
    go_step3
    go_wp2
    go_loopw [9] (fun i wr => i = .int .i64 (n : Int) ∧ wr = w') (fun _ _ => 0)
    case atStart => exact ⟨rfl, rfl⟩
    case round =>
      obtain ⟨rfl, rfl⟩ := hrel
      go_wp2
      go_step3
      go_wp2
      go_quiet (fail)
      go_wp2
      have HW : Hid (Below wr.heap.size wr (wr.drewN nq)) := Lib.hid (RxPeek.below_drewN (Below.refl _ _) _)
      generalize wr.drewN nq = wq at *
      go_quiet (first | (go_at_call 65; refine Calls.quiet_of_same (HB _).out))
      go_wp2
      change bodyPost Try.prog Try.f55 (fun e w2 => e = .returned (.int .i64 (-1)) ∧ Below wr.heap.size wr w2) Exit.ret _ _
      go_ret
      exact ⟨rfl, RxPeek.below_drewN HW.out _⟩
/-- strings.ContainsRune, of a text of ASCII. -/
theorem contains_any (l : List UInt8) (hl : (∀ b ∈ l, b.toNat < 128) ∧ 4 ≤ l.length ∧ l.length ≤ 100) (r : Nat) (hv : UtSpec.sc r) (w : World) : Calls Try.prog 47 #[.string ⟨l.toArray⟩, .int .i32 (r : Int)] w fun e w' => e = .returned (.bool (inn r (l.map UInt8.toNat))) ∧ Below w.heap.size w w' := by
  by_cases h : r < 128
  · have h1 := Go.Proofs.Try.strings_ContainsRune_ascii ⟨l.toArray⟩ (r : Int) w (by omega) (by omega)
    refine h1.mono ?_
    rintro e w' ⟨rfl, rfl⟩
    refine ⟨?_, Below.refl _ _⟩
    rw [indexByte_has]
    congr 2
    unfold inn
    show l.contains _ = _
    rw [Bool.eq_iff_iff, List.contains_iff_mem, List.contains_iff_mem, List.mem_map]
    have e1 : ((r : Int).toNat).toUInt8.toNat = r := by simp; omega
    constructor
    · intro hm; exact ⟨_, hm, e1⟩
    · rintro ⟨b, hm, hb⟩
      have : b = ((r : Int).toNat).toUInt8 := UInt8.toNat_inj.1 (by rw [hb, e1])
      exact this ▸ hm
  · have hno : inn r (l.map UInt8.toNat) = false := by
      unfold inn
      rw [← Bool.not_eq_true, List.contains_iff_mem, List.mem_map]
      rintro ⟨b, hm, hb⟩
      have := hl.1 b hm
      omega
    have HC := index_no ⟨l.toArray⟩ ⟨by simpa using hl.1, by simpa [ByteArray.size] using hl.2.1, by simpa [ByteArray.size] using hl.2.2⟩ r (by omega) hv w
    rw [hno]
    clear h hno hl hv
    go_enter Try.func47, Try.ntmps47
    go_wp2_with fail
    refine HC.mono ?_
    rintro e w' ⟨rfl, hb⟩
    go_wp2
    go_ret
    exact ⟨rfl, hb⟩
end Go.Proofs.Ytdmbgjpidlllcaa.RqCont

