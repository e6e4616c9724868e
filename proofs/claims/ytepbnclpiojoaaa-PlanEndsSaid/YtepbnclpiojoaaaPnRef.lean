/- The contracts of the document's Tier and Bound. No memory is read; only boxes of the call's own may be made. No conditions but that a number is an int. -/
import Derived.Test.YtepbnclpiojoaaaPnStep
import Derived.Test.YtepbnclpiojoaaaSgMem
import Derived.WalkKit
import Derived.Lib.Hide
import Derived.BigQuiet
import Derived.IntWalk
import Derived.WalkLawsBesides
import Derived.Outline
import Derived.Deep.RegionLaw
namespace Go.Proofs.Ytepbnclpiojoaaa.PnRef
open Go Go.RowKit Words PnSpec SgMem

theorem four_pow (k : Nat) : (4 : Int) ^ (k + 1) = 4 * 4 ^ k := by rw [Int.pow_succ]; omega
theorem pow_pos4 (k : Nat) : 1 ≤ 4 ^ k := Nat.one_le_iff_ne_zero.2 (by simp)
/-- One turn of the loop, in plain numbers. -/
theorem tier_turn {n : Int} {k : Nat} (hk : k ≤ tierI n) : ((4 : Int) ^ k ≤ n / 4 ↔ k < tierI n) := by
  have h1 := pow_pos4 k
  have e : ((4 : Int) ^ k) = ((4 ^ k : Nat) : Int) := by simp
  rw [e]
  by_cases h4 : 4 ≤ n
  · obtain ⟨m, rfl⟩ : ∃ m : Nat, n = m := ⟨n.toNat, by omega⟩
    have h := tier_pow (k + 1) m (by omega)
    unfold tierI
    rw [show ((m : Int).toNat) = m by omega]
    have : 4 ^ (k + 1) = 4 * 4 ^ k := by rw [Nat.pow_succ]; omega
    rw [this] at h
    constructor
    · intro hh; have := h.1 (by omega); omega
    · intro hh; have := h.2 (by omega); omega
  · rw [tierI_low (by omega)]
    constructor
    · intro hh; omega
    · intro hh; omega
theorem tierI_le {n : Int} (h : In64 n) : tierI n ≤ 31 := tier_most (by have := h.2; unfold tierI at *; omega)
theorem pow_small {k : Nat} (h : k ≤ 31) : (4 : Int) ^ k ≤ 4611686018427387904 := by
  have : (4 : Nat) ^ k ≤ 4 ^ 31 := Nat.pow_le_pow_right (by omega) h
  have e : ((4 : Int) ^ k) = ((4 ^ k : Nat) : Int) := by simp
  rw [e]; omega

theorem pow_pos4i (k : Nat) : (1 : Int) ≤ 4 ^ k := by
  have := pow_pos4 k
  have e : ((4 : Int) ^ k) = ((4 ^ k : Nat) : Int) := by simp
  rw [e]; omega
theorem tdiv4 (n : Int) : n.tdiv 4 = if 0 ≤ n then n / 4 else -((-n) / 4) := by
  split
  · rename_i h; exact Int.tdiv_eq_ediv_of_nonneg h
  · rename_i h; rw [← Int.neg_neg n, Int.neg_tdiv, Int.tdiv_eq_ediv_of_nonneg (by omega), Int.neg_neg]
def TRel (W : World) (n : Int) (v u : Value) (wr : World) : Prop := ∃ k : Nat, k ≤ tierI n ∧ v = .int .i64 (k : Int) ∧ u = .int .i64 (4 ^ k) ∧ Hid (Below W.heap.size W wr)

set_option maxHeartbeats 3200000 in
set_option maxRecDepth 100000 in
theorem rtier_any (w : World) (n : Int) (hn : In64 n) :
    Calls Try.prog 9 #[.int .i64 n] w fun e w' => e = .returned (.int .i64 (tierI n)) ∧ Below w.heap.size w w' := by
  have HN := Lib.hid hn
  have HT := Lib.hid (tierI_le hn)
  go_enter Try.func9, Try.ntmps9
  go_wp2
  go_loopw [3, 4] (fun v u wr => TRel w n v u wr) (fun v _ _ => tierI n - (intOf v).toNat)
  case atStart => exact ⟨0, Nat.zero_le _, rfl, rfl, Lib.hid (Below.refl _ _)⟩
  case round =>
    obtain ⟨k, hk, rfl, rfl, HB⟩ := hrel
    have hq := tier_turn hk
    have hs := pow_small (Nat.le_trans hk HT.out)
    have hd := tdiv4 n
    have hl := HN.out.1
    have hu := HN.out.2
    have HNX : Hid (.int .i64 (4 * 4 ^ k) = Value.int .i64 (4 ^ (k + 1))) := Lib.hid (by rw [four_pow])
    have h1 := pow_pos4i k
    by_cases hlt : k < tierI n
    · have hc := hq.2 hlt
      have HK : Hid (k + 1 ≤ tierI n) := Lib.hid hlt
      have hk2 : (k : Int) ≤ 31 := by have := HT.out; omega
      have hg : (decide (4 ^ k ≤ n.tdiv 4)) = true := by simp; omega
      have hp2 : 4 * (4 : Int) ^ k ≤ 9223372036854775807 := by omega
      clear hq
      generalize (4 : Int) ^ k = P at *
      go_wp2
      exact ⟨⟨k + 1, HK.out, by go_num, HNX.out, Lib.hid HB.out⟩, by have := HK.out; simp [intOf]; omega⟩
    · have HE : Hid (k = tierI n) := Lib.hid (by omega)
      have hc := mt hq.1 hlt
      have hk2 : (k : Int) ≤ 31 := by have := HT.out; omega
      have hg : (decide (4 ^ k ≤ n.tdiv 4)) = false := by
        have := pow_pos4i k
        simp; split at hd <;> omega
      clear hq hc
      generalize (4 : Int) ^ k = P at *
      by_cases hz : 0 ≤ n
      · rw [if_pos hz] at hd
        rw [hd] at hg
        go_wp2
        go_ret
        rw [← HE.out]
        exact ⟨rfl, HB.out⟩
      · rw [if_neg hz] at hd
        rw [hd] at hg
        go_wp2
        go_ret
        rw [← HE.out]
        exact ⟨rfl, HB.out⟩

set_option maxHeartbeats 3200000 in
set_option maxRecDepth 100000 in
theorem rbound_any (w : World) (n : Int) (hn : In64 n) :
    Calls Try.prog 11 #[.int .i64 n] w fun e w' => e = .returned (.int .i64 (bound n)) ∧ Below w.heap.size w w' := by
  have HN := Lib.hid hn
  have HT := tierI_le hn
  have HC := fun w => rtier_any w n hn
  by_cases h : n < 1
  · have HE : Hid (bound n = 0) := Lib.hid (by unfold bound; rw [if_pos h])
    have hg : decide (n < 1) = true := by simpa using h
    clear HC HT hn
    go_enter Try.func11, Try.ntmps11
    go_wp2
    go_ret
    rw [HE.out]
    exact ⟨rfl, Below.refl _ _⟩
  · have HE : Hid (bound n = 3 + 3 * (tierI n : Int)) := Lib.hid (by unfold bound; rw [if_neg h]; omega)
    have hg : decide (n < 1) = false := by simpa using h
    generalize tierI n = T at *
    clear hn h
    go_enter Try.func11, Try.ntmps11
    go_wp2_with fail
    refine (HC _).mono ?_
    rintro _ w2 ⟨rfl, hb⟩
    have HB := Lib.hid hb
    clear hb
    go_wp2
    go_ret
    rw [HE.out]
    exact ⟨rfl, HB.out⟩
