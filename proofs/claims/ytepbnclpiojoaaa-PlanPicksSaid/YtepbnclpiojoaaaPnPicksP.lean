/- Plain words for PlanPicks: a tier whose four fit is below 16, and there a sum in 64 bits is the sum. Of no program. -/
import Derived.Test.YtepbnclpiojoaaaPnMerge
namespace Go.Proofs.Ytepbnclpiojoaaa.PnPicksP
open PnSpec PnStep SgMem PnRef PnMerge

theorem below16 {c : Int} {t : Nat} (h : tierI c = t) (ht : t < 16) : max c 0 ≤ 4294967296 := by
  by_cases hc : c ≤ 4294967296
  · omega
  · exfalso
    have h1 := (tier_pow 16 c.toNat (by omega)).1 (by omega)
    unfold tierI at h
    omega
theorem from16 {c : Int} {t : Nat} (h : tierI c = t) (ht : 16 ≤ t) : 4294967296 ≤ c := by
  by_cases hc : 4294967296 ≤ c
  · exact hc
  · exfalso
    unfold tierI at h
    by_cases h0 : 1 ≤ c
    · have h1 := (tier_pow 16 c.toNat (by omega)).2 (by omega)
      omega
    · rw [tier_lt (by omega)] at h
      omega
theorem sum_le (cs : List Int) (B : Int) : ∀ l : List Nat, (∀ i ∈ l, max (cs.getD i 0) 0 ≤ B) → sumOf cs l ≤ l.length * B
  | [], _ => by simp [sumOf]
  | a :: l, h => by
    have h1 := sum_le cs B l fun i hi => h i (List.mem_cons_of_mem _ hi)
    have h2 := h a (List.mem_cons_self ..)
    unfold sumOf at *
    simp only [List.map_cons, List.sum_cons, List.length_cons, Int.natCast_add, Int.add_mul]
    omega
theorem sum_ge (cs : List Int) {i : Nat} : ∀ {l : List Nat}, i ∈ l → cs.getD i 0 ≤ sumOf cs l
  | a :: l, h => by
    have h0 := sumOf_low cs l
    rcases List.mem_cons.1 h with rfl | h
    · unfold sumOf at *
      simp only [List.map_cons, List.sum_cons]
      omega
    · have h1 := sum_ge cs h
      unfold sumOf at *
      simp only [List.map_cons, List.sum_cons]
      omega
theorem sum16 (cs : List Int) {t : Nat} (ht : t < 16) (k : Nat) : sumOf cs (picksTo cs t k) ≤ 17179869184 := by
  have h1 := sum_le cs 4294967296 (picksTo cs t k) fun i hi => below16 (picksTo_mem hi).2 ht
  have h2 := picksTo_len cs t k
  have h3 : ((picksTo cs t k).length : Int) * 4294967296 ≤ 4 * 4294967296 := Int.mul_le_mul_of_nonneg_right (by omega) (by omega)
  omega
theorem fits_low {cs : List Int} {t : Nat} (h : fits cs t = true) : t < 16 := by
  by_cases ht : t < 16
  · exact ht
  · exfalso
    unfold fits at h
    simp only [Bool.and_eq_true, beq_iff_eq, decide_eq_true_eq] at h
    obtain ⟨h1, h2⟩ := h
    match hp : picks cs t, h1 with
    | a :: l, _ =>
      have hm : a ∈ picks cs t := by rw [hp]; exact List.mem_cons_self ..
      have h3 := from16 (picksTo_mem (show a ∈ picksTo cs t cs.length from hm)).2 (by omega)
      have h4 := sum_ge cs hm
      omega
/-- As the statement says it, with a sum that wraps. -/
theorem fits_word (cs : List Int) (t : Nat) : fits cs t = ((picks cs t).length == 4 && (decide (sumOf cs (picks cs t) % 18446744073709551616 ≤ 65536) && decide (t < 16))) := by
  by_cases ht : t < 16
  · have h1 := sum16 cs ht cs.length
    have h2 := sumOf_low cs (picks cs t)
    have h3 : sumOf cs (picks cs t) % 18446744073709551616 = sumOf cs (picks cs t) := Int.emod_eq_of_lt h2 (by unfold picks; omega)
    rw [h3, decide_eq_true ht, Bool.and_true]
    rfl
  · rw [decide_eq_false ht, Bool.and_false, Bool.and_false]
    by_cases hf : fits cs t = true
    · exact absurd (fits_low hf) ht
    · simpa using hf
/-- The four that are merged: the first tier that fits. -/
theorem fits_before {cs : List Int} (h : merge cs = []) : ∀ t, t < 32 → fits cs t = false := by
  intro t ht
  by_cases hf : fits cs t = true
  · exfalso
    unfold merge at h
    cases hc : (List.range 32).find? (fits cs) with
    | none => exact absurd hf (by simpa using (List.find?_eq_none.1 hc) t (List.mem_range.2 ht))
    | some u =>
      rw [hc] at h
      have h2 := List.find?_some hc
      unfold fits at h2
      rw [show picks cs u = [] from h] at h2
      simp at h2
  · simpa using hf
end Go.Proofs.Ytepbnclpiojoaaa.PnPicksP
