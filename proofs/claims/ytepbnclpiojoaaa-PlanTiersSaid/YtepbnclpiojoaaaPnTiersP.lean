/- Plain words for PlanTiers: the places gone at an earlier mark among those gone at a later one; tiers. Of no program. -/
import Derived.Test.YtepbnclpiojoaaaPnAwake
namespace Go.Proofs.Ytepbnclpiojoaaa.PnTiersP
open PnSpec SgMem PnRef

def mt (P : Nat → Bool) (y : List Nat) (i : Nat) : Nat := ((y.take i).filter P).length
theorem split_at (P : Nat → Bool) (y : List Nat) {i : Nat} (h : i < y.length) : y.filter P = (y.take i).filter P ++ (y[i] :: y.drop (i + 1)).filter P := by
  rw [← List.filter_append, ← List.drop_eq_getElem_cons h, List.take_append_drop]
theorem mt_succ (P : Nat → Bool) (y : List Nat) {i : Nat} (h : i < y.length) : mt P y (i + 1) = mt P y i + if P y[i] = true then 1 else 0 := by
  unfold mt
  rw [List.take_succ_eq_append_getElem h, List.filter_append, List.length_append]
  by_cases hp : P y[i] = true <;> simp [hp]
theorem mt_yes (P : Nat → Bool) (y : List Nat) {i : Nat} (h : i < y.length) (hp : P y[i] = true) : (y.filter P)[mt P y i]? = some y[i] := by
  rw [split_at P y h]
  unfold mt
  rw [List.getElem?_append_right (Nat.le_refl _), Nat.sub_self, List.filter_cons_of_pos hp]
  rfl
theorem mt_no (P : Nat → Bool) (y : List Nat) {i : Nat} (h : i < y.length) (hp : P y[i] = false) {v : Nat} (hv : (y.filter P)[mt P y i]? = some v) : v ≠ y[i] := by
  intro e
  have hm := List.mem_of_getElem? hv
  rw [List.mem_filter] at hm
  rw [e, hp] at hm
  exact absurd hm.2 (by simp)
theorem mt_end (P : Nat → Bool) (y : List Nat) : mt P y y.length = (y.filter P).length := by unfold mt; rw [List.take_length]
theorem mt_le (P : Nat → Bool) (y : List Nat) (i : Nat) : mt P y i ≤ (y.filter P).length := by
  unfold mt
  exact ((List.take_sublist i y).filter P).length_le
theorem gone_among (ms : List Int) {lo hi : Int} (h : lo ≤ hi) : gone ms lo = (gone ms hi).filter fun i => decide (ms.getD i 0 < lo) := by
  unfold gone goneTo
  rw [List.filter_filter]
  congr 1
  funext i
  by_cases h1 : ms.getD i 0 < lo
  · rw [decide_eq_true h1, decide_eq_true (show ms.getD i 0 < hi by omega)]; rfl
  · rw [decide_eq_false h1]; rfl
theorem gone_none {ms : List Int} (h : ∀ m ∈ ms, In64 m) : gone ms (-9223372036854775808) = [] := by
  unfold gone goneTo
  rw [List.filter_eq_nil_iff]
  intro i hi
  have hi := List.mem_range.1 hi
  have := h (ms.getD i 0) (by rw [List.getD_eq_getElem?_getD, List.getElem?_eq_getElem hi]; exact List.getElem_mem hi)
  have h1 := this.1
  simp only [decide_eq_true_eq]
  omega
theorem tierI_mono {a b : Int} (h : a ≤ b) : tierI a ≤ tierI b := tier_mono (by omega)
theorem tierI_four {n : Int} (h : 1 ≤ n) : tierI (4 * n) = tierI n + 1 := by
  obtain ⟨m, rfl⟩ : ∃ m : Nat, n = m := ⟨n.toNat, by omega⟩
  unfold tierI
  rw [show ((4 * (m : Int))).toNat = 4 * m by omega, show ((m : Int)).toNat = m by omega]
  exact tier_four (by omega)
end Go.Proofs.Ytepbnclpiojoaaa.PnTiersP
