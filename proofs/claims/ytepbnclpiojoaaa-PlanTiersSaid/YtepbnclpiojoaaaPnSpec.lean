/- Plans in plain words: a segment's tier, the bound, which four are merged, which are gone; that merging comes to an end within the bound. Of no program. No conditions but those that the theorems name. -/
import Derived.WalkKit
namespace Go.Proofs.Ytepbnclpiojoaaa.PnSpec

/-! ### Tiers -/
def tier (n : Nat) : Nat := if 4 ≤ n then tier (n / 4) + 1 else 0
termination_by n
decreasing_by omega
theorem tier_lt {n : Nat} (h : n < 4) : tier n = 0 := by rw [tier, if_neg (by omega)]
theorem tier_ge {n : Nat} (h : 4 ≤ n) : tier n = tier (n / 4) + 1 := by rw [tier, if_pos h]
theorem tier_four {n : Nat} (h : 1 ≤ n) : tier (4 * n) = tier n + 1 := by rw [tier_ge (by omega), show 4 * n / 4 = n by omega]
theorem tier_pow : ∀ (t n : Nat), 1 ≤ n → (4 ^ t ≤ n ↔ t ≤ tier n)
  | 0, n, h => by simp; omega
  | t + 1, n, h => by
    rw [Nat.pow_succ]
    by_cases h4 : 4 ≤ n
    · rw [tier_ge h4]
      have ih := tier_pow t (n / 4) (by omega)
      constructor
      · intro h1
        have := ih.1 (by omega)
        omega
      · intro h1
        have := ih.2 (by omega)
        omega
    · rw [tier_lt (by omega)]
      have := Nat.one_le_two_pow (n := t)
      have h1 : 1 ≤ 4 ^ t := Nat.pos_of_ne_zero (by simp)
      constructor
      · intro h2; omega
      · intro h2; omega
theorem tier_mono {a b : Nat} (h : a ≤ b) : tier a ≤ tier b := by
  by_cases h0 : a = 0
  · rw [h0, tier_lt (by omega)]; exact Nat.zero_le _
  · exact (tier_pow _ b (by omega)).1 (Nat.le_trans ((tier_pow _ a (by omega)).2 (Nat.le_refl _)) h)
theorem tier_most {n : Nat} (h : n < 9223372036854775808) : tier n ≤ 31 := by
  have h1 := tier_mono (show n ≤ 9223372036854775807 by omega)
  by_cases h0 : 32 ≤ tier 9223372036854775807
  · have := (tier_pow 32 9223372036854775807 (by omega)).2 h0
    omega
  · omega
/-- The tier of a segment of n records. -/
def tierI (n : Int) : Nat := tier n.toNat
def bound (n : Int) : Int := if n < 1 then 0 else 3 * (1 + (tierI n : Int))
theorem tierI_low {n : Int} (h : n < 4) : tierI n = 0 := tier_lt (by omega)
theorem tierI_ge {n : Int} (h : 4 ≤ n) : tierI n = tierI (n / 4) + 1 := by
  unfold tierI
  rw [tier_ge (by omega)]
  congr 2
  omega

/-! ### What is merged -/
/-- The places of tier t among the first k counts, at most four. -/
def picksTo (cs : List Int) (t k : Nat) : List Nat := ((List.range k).filter fun i => tierI (cs.getD i 0) == t).take 4
def picks (cs : List Int) (t : Nat) : List Nat := picksTo cs t cs.length
def sumOf (cs : List Int) (l : List Nat) : Int := (l.map fun i => max (cs.getD i 0) 0).sum
def fits (cs : List Int) (t : Nat) : Bool := (picks cs t).length == 4 && decide (sumOf cs (picks cs t) ≤ 65536)
def merge (cs : List Int) : List Nat := match (List.range 32).find? (fits cs) with
  | some t => picks cs t
  | none => []
theorem picksTo_zero (cs : List Int) (t : Nat) : picksTo cs t 0 = [] := rfl
theorem picksTo_succ (cs : List Int) (t k : Nat) : picksTo cs t (k + 1) = if (picksTo cs t k).length < 4 ∧ tierI (cs.getD k 0) = t then picksTo cs t k ++ [k] else picksTo cs t k := by
  unfold picksTo
  rw [List.range_succ, List.filter_append]
  obtain ⟨L, hL⟩ : ∃ L, (List.range k).filter (fun i => tierI (cs.getD i 0) == t) = L := ⟨_, rfl⟩
  rw [hL]
  by_cases ht : tierI (cs.getD k 0) = t
  · have hf : [k].filter (fun i => tierI (cs.getD i 0) == t) = [k] := by rw [List.filter_cons, if_pos (by simpa using ht)]; rfl
    rw [hf]
    by_cases h4 : L.length < 4
    · rw [List.take_of_length_le (by simp; omega), List.take_of_length_le (by omega), if_pos ⟨h4, ht⟩]
    · rw [List.take_append_of_le_length (by omega), if_neg (by rw [List.length_take]; omega)]
  · have hf : [k].filter (fun i => tierI (cs.getD i 0) == t) = [] := by rw [List.filter_cons, if_neg (by simpa using ht)]; rfl
    rw [hf, List.append_nil, if_neg (fun h => ht h.2)]
theorem picksTo_len (cs : List Int) (t k : Nat) : (picksTo cs t k).length ≤ 4 := by unfold picksTo; rw [List.length_take]; omega
theorem picksTo_le (cs : List Int) (t k : Nat) : (picksTo cs t k).length ≤ k := by
  unfold picksTo
  rw [List.length_take]
  have := List.length_filter_le (fun i => tierI (cs.getD i 0) == t) (List.range k)
  rw [List.length_range] at this
  omega
theorem picksTo_mem {cs : List Int} {t k i : Nat} (h : i ∈ picksTo cs t k) : i < k ∧ tierI (cs.getD i 0) = t := by
  have h1 := List.mem_of_mem_take h
  rw [List.mem_filter, List.mem_range] at h1
  exact ⟨h1.1, by simpa using h1.2⟩
/-- Once four are found no later place counts. -/
theorem picks_full {cs : List Int} {t k : Nat} (h : (picksTo cs t k).length = 4) : ∀ j, k ≤ j → picksTo cs t j = picksTo cs t k
  | 0, hj => by rw [show k = 0 by omega]
  | j + 1, hj => by
    by_cases e : k = j + 1
    · rw [e]
    · have ih := picks_full h j (by omega)
      rw [picksTo_succ, ih, if_neg (by omega)]

/-! ### What is gone -/
def goneTo (ms : List Int) (mark : Int) (k : Nat) : List Nat := (List.range k).filter fun i => decide (ms.getD i 0 < mark)
def gone (ms : List Int) (mark : Int) : List Nat := goneTo ms mark ms.length
theorem goneTo_succ (ms : List Int) (mark : Int) (k : Nat) : goneTo ms mark (k + 1) = if ms.getD k 0 < mark then goneTo ms mark k ++ [k] else goneTo ms mark k := by
  unfold goneTo
  rw [List.range_succ, List.filter_append]
  by_cases h : ms.getD k 0 < mark
  · rw [if_pos h, List.filter_cons, if_pos (by simpa using h)]; rfl
  · rw [if_neg h, List.filter_cons, if_neg (by simpa using h)]; exact List.append_nil _
theorem goneTo_le (ms : List Int) (mark : Int) (k : Nat) : (goneTo ms mark k).length ≤ k := by
  have := List.length_filter_le (fun i => decide (ms.getD i 0 < mark)) (List.range k)
  rw [List.length_range] at this
  exact this
end Go.Proofs.Ytepbnclpiojoaaa.PnSpec
