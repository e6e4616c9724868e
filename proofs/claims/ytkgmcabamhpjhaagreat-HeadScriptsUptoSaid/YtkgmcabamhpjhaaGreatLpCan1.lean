/- The program's checks of a label: isDigit, isName, check; strings.Clone. Conditions: a text that is cloned has at most 2^48 bytes. -/
import Derived.Test.YtkgmcabamhpjhaaGreatLbRefs
import Derived.Test.YtkgmcabamhpjhaaGreatUts
import Derived.Test.YtkgmcabamhpjhaaGreatLps
namespace Go.Proofs.YtkgmcabamhpjhaaGreat.LpCan1
open Go Go.RowKit Words AppN UtSpec UtRange Less LbSpec LbText LbMem LbRef LbCmp UtOwn LpOrd

set_option maxHeartbeats 800000 in
theorem digit_any (c : Nat) (w : World) : Calls Tryz.prog 133 #[.int .u8 (c : Int)] w fun e w' => e = .returned (.bool (decide (48 ≤ c) && decide (c ≤ 57))) ∧ w' = w := by
  by_cases h1 : 48 ≤ c
  · have j1 : (48 : Int) ≤ (c : Int) := by omega
    by_cases h2 : c ≤ 57
    · have j2 : (c : Int) ≤ 57 := by omega
      rw [show (decide (48 ≤ c) && decide (c ≤ 57)) = true by simp [h1, h2]]
      clear h1 h2
      go_enter Tryz.func133, Tryz.ntmps133
      go_wp2
      go_ret
      exact ⟨rfl, rfl⟩
    · have j2 : ¬ (c : Int) ≤ 57 := by omega
      rw [show (decide (48 ≤ c) && decide (c ≤ 57)) = false by simp [h2]]
      clear h1 h2
      go_enter Tryz.func133, Tryz.ntmps133
      go_wp2
      go_ret
      exact ⟨rfl, rfl⟩
  · have j1 : ¬ (48 : Int) ≤ (c : Int) := by omega
    rw [show (decide (48 ≤ c) && decide (c ≤ 57)) = false by simp [h1]]
    clear h1
    go_enter Tryz.func133, Tryz.ntmps133
    go_wp2
    go_ret
    exact ⟨rfl, rfl⟩

set_option maxHeartbeats 3200000 in
set_option maxRecDepth 100000 in
theorem name_any (N : ByteArray) (w : World) : Calls Tryz.prog 112 #[.string N] w fun e w' => e = .returned (.bool (nameOk N.data.toList)) ∧ w = w' := by
  have e2 : N.data.toList.length = N.size := by simp
  obtain ⟨r, hr⟩ : ∃ r, nameOk N.data.toList = r := ⟨_, rfl⟩
  have HR := Lib.hid hr
  have E2 := Lib.hid e2
  rw [hr]
  clear hr
  by_cases hlen : 1 ≤ N.size ∧ N.size ≤ 32
  · obtain ⟨h1, h2⟩ := hlen
    clear e2
    have h0 : 0 < N.size := h1
    have j1 : ((N.size : Int) == 0) = false := beq_eq_false_iff_ne.2 (by omega)
    have j2 : ¬ (32 : Int) < (N.size : Int) := by omega
    obtain ⟨c0, hc0⟩ : ∃ c, (N[0]'h0).toNat = c := ⟨_, rfl⟩
    have HD0 := Lib.hid (digit_any c0 w)
    have hz : (decide (48 ≤ c0) && decide (c0 ≤ 57)) = true → r = false := fun h => by
      rw [← HR.out]
      cases e : nameOk N.data.toList with
      | false => rfl
      | true =>
        have h3 := ((name_iff _).1 e).2.2 0 (by rw [E2.out]; exact h0)
        rw [okc_iff] at h3
        have h4 : ((N.data.toList[0]'(by rw [E2.out]; exact h0))).toNat = c0 := hc0
        rw [h4] at h3
        simp at h
        omega
    obtain ⟨d0, hd0⟩ : ∃ d, (decide (48 ≤ c0) && decide (c0 ≤ 57)) = d := ⟨_, rfl⟩
    rw [hd0] at HD0 hz
    have HZ := Lib.hid hz
    have HNZ := Lib.hid hd0
    clear hd0 hz
    cases d0 with
    | true =>
      have HF : Hid (r = false) := Lib.hid (HZ.out rfl)
      clear HZ
      go_enter Tryz.func112, Tryz.ntmps112
      go_wp2_with (go_at_call 133; refine HD0.out.mono ?_; rintro e w' ⟨rfl, rfl⟩)
      go_ret
      exact ⟨ret_bool HF.out.symm, rfl⟩
    | false =>
      clear HZ
      have HC0 := Lib.hid hc0
      go_enter Tryz.func112, Tryz.ntmps112
      go_wp2_with (go_at_call 133; refine HD0.out.mono ?_; rintro e w' ⟨rfl, rfl⟩)
      clear hc0 HD0 j1 j2
      go_loop [20] (fun v => NRel N.data.toList v) (fun v => N.size - (intOf v).toNat)
      case atStart => exact ⟨0, rfl, Nat.zero_le _, Lib.hid (fun j h h' => by omega)⟩
      case round =>
        obtain ⟨i, rfl, hi, HA⟩ := hrel
        rw [E2.out] at hi
        by_cases hlt : i < N.size
        · obtain ⟨c, hc⟩ : ∃ c, (N[i]'hlt).toNat = c := ⟨_, rfl⟩
          have HK := fun w => Lib.hid (digit_any c w)
          have hok : okc i (N.data.toList[i]'(by rw [E2.out]; exact hlt)) = true ↔ (97 ≤ c ∧ c ≤ 122) ∨ c = 95 ∨ (48 ≤ c ∧ c ≤ 57) := by
            rw [okc_iff, show (N.data.toList[i]'(by rw [E2.out]; exact hlt)).toNat = c from hc]
            constructor
            · omega
            · rintro (h | h | h)
              · exact .inl h
              · exact .inr (.inl h)
              · refine .inr (.inr ⟨?_, h⟩)
                rcases Nat.eq_zero_or_pos i with e | e
                · subst e
                  have h3 := HNZ.out
                  have h4 := HC0.out
                  rw [hc] at h4
                  simp at h3
                  omega
                · exact e
          obtain ⟨d, hd⟩ : ∃ d, (decide (48 ≤ c) && decide (c ≤ 57)) = d := ⟨_, rfl⟩
          have HDD : Hid (d = true ↔ 48 ≤ c ∧ c ≤ 57) := Lib.hid (by rw [← hd]; simp)
          simp only [hd] at HK
          by_cases hg : (97 ≤ c ∧ c ≤ 122) ∨ c = 95 ∨ (48 ≤ c ∧ c ≤ 57)
          · have HA2 : Hid (∀ j (h : j < N.data.toList.length), j < i + 1 → okc j N.data.toList[j] = true) := Lib.hid (fun j h hj => by
              by_cases e : j = i
              · subst e
                exact hok.2 hg
              · exact HA.out j h (by omega))
            have HG := Lib.hid hg
            clear hg hok HA hd
            cases d with
            | true =>
              go_wp2_with (go_at_call 133; refine (HK _).out.mono ?_; rintro e w' ⟨rfl, rfl⟩)
              all_goals
                (go_round
                 case rel => exact ⟨i + 1, by go_num, by rw [E2.out]; omega, HA2⟩
                 case measure => simp [intOf]; omega)
            | false =>
              go_wp2_with (go_at_call 133; refine (HK _).out.mono ?_; rintro e w' ⟨rfl, rfl⟩)
              all_goals first
                | (exfalso; have hg := HG.out; have hdd := HDD.out; (try simp only [decide_eq_false_iff_not, ne_eq, Bool.and_eq_false_iff, bne_iff_ne, bne_eq_false_iff_eq, Bool.false_eq_true, false_iff] at *); omega)
                | (go_round
                   case rel => exact ⟨i + 1, by go_num, by rw [E2.out]; omega, HA2⟩
                   case measure => simp [intOf]; omega)
          · have HF : Hid (r = false) := Lib.hid (by
              rw [← HR.out]
              cases e : nameOk N.data.toList with
              | false => rfl
              | true => exact absurd (hok.1 (((name_iff _).1 e).2.2 i (by rw [E2.out]; exact hlt))) hg)
            have HG := Lib.hid hg
            clear hg hok HA hd
            cases d with
            | true => exact absurd (HDD.out.1 rfl) (fun h => HG.out (.inr (.inr h)))
            | false =>
              go_wp2_with (go_at_call 133; refine (HK _).out.mono ?_; rintro e w' ⟨rfl, rfl⟩)
              all_goals first
                | (exfalso; have hg := HG.out; have hdd := HDD.out; (try simp only [decide_eq_false_iff_not, ne_eq, Bool.and_eq_false_iff, bne_iff_ne, bne_eq_false_iff_eq, Bool.false_eq_true, false_iff] at *); omega)
                | (go_ret; exact ⟨ret_bool HF.out.symm, rfl⟩)
        · have HT : Hid (r = true) := Lib.hid (by
            refine HR.out.symm.trans ((name_iff _).2 ⟨by rw [E2.out]; exact h1, by rw [E2.out]; exact h2, fun j h => HA.out j h ?_⟩)
            have := E2.out
            omega)
          clear HA
          go_wp2
          go_ret
          exact ⟨ret_bool HT.out.symm, rfl⟩
  · have HF : Hid (r = false) := Lib.hid (by
      rw [← HR.out]
      cases e : nameOk N.data.toList with
      | false => rfl
      | true =>
        have h := (name_iff _).1 e
        have h1 := h.1
        have h2 := h.2.1
        rw [e2] at h1 h2
        exact absurd ⟨h1, h2⟩ hlen)
    clear e2
    by_cases h1 : N.size = 0
    · have j1 : ((N.size : Int) == 0) = true := beq_iff_eq.2 (by omega)
      clear hlen
      go_enter Tryz.func112, Tryz.ntmps112
      go_wp2
      all_goals first
        | (exfalso; omega)
        | (go_ret; exact ⟨ret_bool HF.out.symm, rfl⟩)
    · have j1 : ((N.size : Int) == 0) = false := beq_eq_false_iff_ne.2 (by omega)
      have j2 : (32 : Int) < (N.size : Int) := by omega
      clear hlen
      go_enter Tryz.func112, Tryz.ntmps112
      go_wp2
      all_goals first
        | (exfalso; omega)
        | (go_ret; exact ⟨ret_bool HF.out.symm, rfl⟩)

set_option maxHeartbeats 800000 in
/-- strings.Clone. -/
theorem clone_any (a : List UInt8) (w : World) (h : a.length ≤ 281474976710656) : Calls Tryz.prog 52 #[S8 a] w fun e w' => e = .returned (S8 a) ∧ Below w.heap.size w w' := by
  have HC := Lib.hid (Tryz.stringslite_Clone ⟨a.toArray⟩ w (by rw [size_len]; exact h))
  unfold S8
  clear h
  go_enter Tryz.func52, Tryz.ntmps52
  go_wp2_with fail
  refine HC.out.mono ?_
  rintro e w' ⟨rfl, hb⟩
  have HB := Lib.hid hb
  clear hb
  go_wp2
  go_ret
  exact ⟨rfl, HB.out⟩

set_option maxHeartbeats 1600000 in
/-- label.check. -/
theorem check_any (x : Lab) (w : World) : Calls Tryz.prog 68 #[aggL x] w fun e w' => e = .returned (.int .i64 (lerr x : Int)) ∧ Below w.heap.size w w' := by
  obtain ⟨x1, x2⟩ := x
  have HN := fun w => Lib.hid (name_any ⟨x1.toArray⟩ w)
  have HV0 := Lib.hid (fun w => valid_any ⟨x2.toArray⟩ w)
  obtain ⟨r, hr⟩ : ∃ r, lerr (x1, x2) = r := ⟨_, rfl⟩
  rw [hr]
  unfold lerr at hr
  simp only at hr HN
  have HW : Hid (Below w.heap.size w (w.alloc (.cells #[.string ⟨x1.toArray⟩, .string ⟨x2.toArray⟩] 70))) := Lib.hid ((Below.refl _ w).alloc (Nat.le_refl _) _)
  obtain ⟨q1, h1⟩ : ∃ q, nameOk x1 = q := ⟨_, rfl⟩
  obtain ⟨q3, h3⟩ : ∃ q, vals x2 = q := ⟨_, rfl⟩
  rw [h1, h3] at hr
  rw [h1] at HN
  rw [show (⟨x2.toArray⟩ : ByteArray).data.toList = x2 from rfl, h3] at HV0
  have HE := Lib.hid hr
  unfold aggL S8
  have e2 : (⟨x2.toArray⟩ : ByteArray).size = x2.length := size_len x2
  obtain ⟨X2, hX2⟩ : ∃ X, X = (⟨x2.toArray⟩ : ByteArray) := ⟨_, rfl⟩
  obtain ⟨X1, hX1⟩ : ∃ X, X = (⟨x1.toArray⟩ : ByteArray) := ⟨_, rfl⟩
  rw [← hX1, ← hX2] at HW
  rw [← hX1] at HN
  rw [← hX2] at HV0 e2
  simp only [← hX1, ← hX2]
  clear hr h1 h3 hX1 hX2
  cases q1 with
  | false =>
    go_enter Tryz.func68, Tryz.ntmps68
    go_wp2_with fail
    refine (HN _).out.mono ?_
    rintro e w1 ⟨rfl, rfl⟩
    go_wp2
    go_ret
    exact ⟨ret_int (by have := HE.out; simp at this; omega), HW.out⟩
  | true =>
    by_cases hl : 256 < x2.length
    · have j : (256 : Int) < (X2.size : Int) := by omega
      go_enter Tryz.func68, Tryz.ntmps68
      go_wp2_with fail
      refine (HN _).out.mono ?_
      rintro e w1 ⟨rfl, rfl⟩
      go_wp2
      go_ret
      exact ⟨ret_int (by have := HE.out; simp [hl] at this; omega), HW.out⟩
    · have j : ¬ (256 : Int) < (X2.size : Int) := by omega
      have HV := fun w => Lib.hid (HV0.out w (by unfold maxLen; omega))
      cases q3 with
      | false =>
        go_enter Tryz.func68, Tryz.ntmps68
        go_wp2_with fail
        refine (HN _).out.mono ?_
        rintro e w1 ⟨rfl, rfl⟩
        go_wp2_with fail
        refine (HV _).out.mono ?_
        rintro e w2 ⟨rfl, hb2⟩
        have HB2 : Hid (Below w.heap.size w w2) := Lib.hid (HW.out.trans (hb2.mono (by simp)))
        clear hb2
        go_wp2
        go_ret
        exact ⟨ret_int (by have := HE.out; simp [hl] at this; omega), HB2.out⟩
      | true =>
        go_enter Tryz.func68, Tryz.ntmps68
        go_wp2_with fail
        refine (HN _).out.mono ?_
        rintro e w1 ⟨rfl, rfl⟩
        go_wp2_with fail
        refine (HV _).out.mono ?_
        rintro e w2 ⟨rfl, hb2⟩
        have HB2 : Hid (Below w.heap.size w w2) := Lib.hid (HW.out.trans (hb2.mono (by simp)))
        clear hb2
        go_wp2
        go_ret
        exact ⟨ret_int (by have := HE.out; simp [hl] at this; omega), HB2.out⟩
end Go.Proofs.YtkgmcabamhpjhaaGreat.LpCan1
