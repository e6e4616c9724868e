/- The contracts of the program's Tier and Bound: a tier is half the bits that a number needs beyond the first. No conditions but that a number is an int. -/
import Derived.Test.YtepbnclpiojoaaaPnLaw
import Derived.Test.YtepbnclpiojoaaaLen
namespace Go.Proofs.Ytepbnclpiojoaaa.PnTier
open Go Go.RowKit Words PnSpec SgMem PnRef PkPlain

theorem tier_log {n : Nat} (h : 1 ≤ n) : tier n = n.log2 / 2 := by
  have key : ∀ t, t ≤ tier n ↔ t ≤ n.log2 / 2 := fun t => by
    rw [← tier_pow t n h, show (4 : Nat) ^ t = 2 ^ (2 * t) by rw [Nat.pow_mul], ← Nat.le_log2 (by omega)]
    omega
  exact Nat.le_antisymm ((key _).1 (Nat.le_refl _)) ((key _).2 (Nat.le_refl _))
theorem need_tier {n : Nat} (h : 1 ≤ n) : ∃ L, need n = L + 1 ∧ L / 2 = tier n := ⟨n.log2, by unfold need; rw [if_neg (by omega)], (tier_log h).symm⟩

set_option maxHeartbeats 3200000 in
theorem tier_any (w : World) (n : Int) (hn : In64 n) :
    Calls Try.prog 8 #[.int .i64 n] w fun e w' => e = .returned (.int .i64 (tierI n)) ∧ Below w.heap.size w w' := by
  by_cases h : n < 1
  · have HE : Hid (tierI n = 0) := Lib.hid (tierI_low (by omega))
    have hg : decide (n < 1) = true := by simpa using h
    go_enter Try.func8, Try.ntmps8
    go_wp2
    go_ret
    rw [HE.out]
    exact ⟨rfl, Below.refl _ _⟩
  · obtain ⟨m, rfl⟩ : ∃ m : Nat, n = m := ⟨n.toNat, by omega⟩
    have h2 := hn.2
    have hm : m < 18446744073709551616 := by omega
    have hT := tierI_le hn
    obtain ⟨L, hL, ht⟩ := need_tier (n := m) (by omega)
    have HE : Hid (tierI (m : Int) = L / 2) := Lib.hid (by unfold tierI; rw [ht]; rfl)
    rw [HE.out] at hT
    have HC : ∀ w, Calls Try.prog 18 #[.int .u64 (m : Int)] w fun e w' => e = .returned (.int .i64 ((L : Int) + 1)) ∧ w = w' := fun w => (Len.len_any m w hm).mono fun e w' h => by
      rw [hL] at h
      simpa using h
    have hg : decide ((m : Int) < 1) = false := by simpa using h
    have hq : ((L : Int)).tdiv 2 = ((L / 2 : Nat) : Int) := by rw [Int.tdiv_eq_ediv_of_nonneg (by omega)]; omega
    clear hL ht hn h
    go_enter Try.func8, Try.ntmps8
    go_wp2_with fail
    refine (HC _).mono ?_
    rintro _ w2 ⟨rfl, rfl⟩
    go_wp2
    go_ret
    rw [HE.out]
    exact ⟨rfl, Below.refl _ _⟩

set_option maxHeartbeats 3200000 in
theorem bound_any (w : World) (n : Int) (hn : In64 n) :
    Calls Try.prog 10 #[.int .i64 n] w fun e w' => e = .returned (.int .i64 (bound n)) ∧ Below w.heap.size w w' := by
  have HN := Lib.hid hn
  have HT := tierI_le hn
  have HC := fun w => tier_any w n hn
  by_cases h : n < 1
  · have HE : Hid (bound n = 0) := Lib.hid (by unfold bound; rw [if_pos h])
    have hg : decide (n < 1) = true := by simpa using h
    clear HC HT hn
    go_enter Try.func10, Try.ntmps10
    go_wp2
    go_ret
    rw [HE.out]
    exact ⟨rfl, Below.refl _ _⟩
  · have HE : Hid (bound n = 3 * (1 + (tierI n : Int))) := Lib.hid (by unfold bound; rw [if_neg h])
    have hg : decide (n < 1) = false := by simpa using h
    generalize tierI n = T at *
    clear hn h
    go_enter Try.func10, Try.ntmps10
    go_wp2_with fail
    refine (HC _).mono ?_
    rintro _ w2 ⟨rfl, hb⟩
    have HB := Lib.hid hb
    clear hb
    go_wp2
    go_ret
    rw [HE.out]
    exact ⟨by first | rfl | (congr 2; omega), HB.out⟩
end Go.Proofs.Ytepbnclpiojoaaa.PnTier
