/- One turn of merging, in plain words: the four that are named, and the rest. Of no program. No conditions but those that the theorems name. -/
import Derived.Test.YtepbnclpiojoaaaPnEnds
namespace Go.Proofs.Ytepbnclpiojoaaa.PnStep
open PnSpec PnEnds

/-- Four places, rising. -/
theorem merge_cases (cs : List Int) : merge cs = [] ∨ ∃ t i0 i1 i2 i3, t < 32 ∧ merge cs = [i0, i1, i2, i3] ∧ picks cs t = [i0, i1, i2, i3] ∧ fits cs t = true ∧ (∀ u, u < t → fits cs u = false) ∧ i0 < i1 ∧ i1 < i2 ∧ i2 < i3 ∧ i3 < cs.length := by
  unfold merge
  cases hf : (List.range 32).find? (fits cs) with
  | none => exact .inl rfl
  | some t =>
    have h1 := List.find?_some hf
    have h2 := h1
    unfold fits at h2
    rw [Bool.and_eq_true] at h2
    have h4 : (picks cs t).length = 4 := by simpa using h2.1
    have hm : t < 32 := List.mem_range.1 (List.mem_of_find?_eq_some hf)
    have hlow : ∀ u, u < t → fits cs u = false := by
      intro u hu
      obtain ⟨_, as, bs, he, hb⟩ := List.find?_eq_some_iff_append.1 hf
      have hu2 : u ∈ as := by
        have hl : as.length = t := by
          have h5 : (List.range 32)[as.length]? = (as ++ t :: bs)[as.length]? := by rw [he]
          rw [List.getElem?_append_right (Nat.le_refl _), Nat.sub_self, List.getElem?_cons_zero] at h5
          have h6 : as.length < 32 := by
            have h7 := congrArg List.length he
            rw [List.length_range, List.length_append, List.length_cons] at h7
            omega
          rw [List.getElem?_range h6] at h5
          exact Option.some.inj h5
        have h5 : (List.range 32)[u]? = (as ++ t :: bs)[u]? := by rw [he]
        rw [List.getElem?_range (by omega), List.getElem?_append_left (by omega)] at h5
        exact List.mem_iff_getElem?.2 ⟨u, h5.symm⟩
      have := hb u hu2
      simpa using this
    have hp : (picks cs t).Pairwise (· < ·) := by
      unfold picks picksTo
      exact List.Pairwise.sublist ((List.take_sublist _ _).trans List.filter_sublist) List.pairwise_lt_range
    have hlt : ∀ i ∈ picks cs t, i < cs.length := fun i hi => (picksTo_mem hi).1
    simp only
    match hl : picks cs t, h4 with
    | [i0, i1, i2, i3], _ =>
      rw [hl] at hp hlt
      simp only [List.pairwise_cons, List.mem_cons, List.not_mem_nil, or_false] at hp
      exact .inr ⟨t, i0, i1, i2, i3, hm, rfl, hl, h1, hlow, hp.1 i1 (.inl rfl), hp.2.1 i2 (.inl rfl), hp.2.2.1 i3 rfl, hlt i3 (by simp)⟩
def isOf (l : List Nat) (i : Nat) : Bool := l.contains i
def restTo (cs : List Int) (l : List Nat) (k : Nat) : List Int := ((List.range k).filter fun i => !isOf l i).map fun i => cs.getD i 0
def inTo (cs : List Int) (l : List Nat) (k : Nat) : Int := (((List.range k).filter fun i => isOf l i).map fun i => cs.getD i 0).sum
theorem restTo_succ (cs : List Int) (l : List Nat) (k : Nat) : restTo cs l (k + 1) = if isOf l k = true then restTo cs l k else restTo cs l k ++ [cs.getD k 0] := by
  unfold restTo
  rw [List.range_succ, List.filter_append, List.map_append]
  by_cases h : isOf l k = true
  · rw [if_pos h, List.filter_cons, if_neg (by simp [h])]
    exact List.append_nil _
  · rw [if_neg h, List.filter_cons, if_pos (by simp [h])]
    rfl
theorem inTo_succ (cs : List Int) (l : List Nat) (k : Nat) : inTo cs l (k + 1) = if isOf l k = true then inTo cs l k + cs.getD k 0 else inTo cs l k := by
  unfold inTo
  rw [List.range_succ, List.filter_append, List.map_append, List.sum_append]
  by_cases h : isOf l k = true
  · rw [if_pos h, List.filter_cons, if_pos h]
    simp
  · rw [if_neg h, List.filter_cons, if_neg h]
    simp
theorem both_sum (cs : List Int) (l : List Nat) : ∀ k, k ≤ cs.length → (restTo cs l k).sum + inTo cs l k = (cs.take k).sum
  | 0, _ => by simp [restTo, inTo]
  | k + 1, hk => by
    have ih := both_sum cs l k (by omega)
    have hc : cs.getD k 0 = cs[k] := by rw [List.getD_eq_getElem?_getD, List.getElem?_eq_getElem (by omega)]; rfl
    rw [restTo_succ, inTo_succ, List.take_succ_eq_append_getElem (by omega), List.sum_append, ← hc]
    split
    · simp only [List.sum_cons, List.sum_nil]; omega
    · rw [List.sum_append]
      simp only [List.sum_cons, List.sum_nil]
      omega
theorem rest_len (cs : List Int) (l : List Nat) (k : Nat) : (restTo cs l k).length + ((List.range k).filter fun i => isOf l i).length = k := by
  unfold restTo
  rw [List.length_map]
  have h : ∀ m : List Nat, (m.filter fun i => !isOf l i).length + (m.filter fun i => isOf l i).length = m.length := by
    intro m
    induction m with
    | nil => rfl
    | cons x m ih =>
      rw [List.filter_cons, List.filter_cons]
      cases isOf l x <;> simp <;> omega
  have := h (List.range k)
  rw [List.length_range] at this
  exact this
theorem rest_mem {cs : List Int} {l : List Nat} {k : Nat} (hk : k ≤ cs.length) {c : Int} (h : c ∈ restTo cs l k) : c ∈ cs := by
  unfold restTo at h
  obtain ⟨i, hi, rfl⟩ := List.mem_map.1 h
  rw [List.mem_filter, List.mem_range] at hi
  have hc : cs.getD i 0 = cs[i] := by rw [List.getD_eq_getElem?_getD, List.getElem?_eq_getElem (by omega)]; rfl
  rw [hc]
  exact List.getElem_mem _
theorem in_four {i0 i1 i2 i3 : Nat} (h1 : i0 < i1) (h2 : i1 < i2) (h3 : i2 < i3) : ∀ k, i3 < k → ((List.range k).filter fun i => isOf [i0, i1, i2, i3] i) = [i0, i1, i2, i3] := by
  have key : ∀ k, ((List.range k).filter fun i => isOf [i0, i1, i2, i3] i) = [i0, i1, i2, i3].filter fun i => decide (i < k) := by
    intro k
    induction k with
    | zero => simp
    | succ k ih =>
      rw [List.range_succ, List.filter_append, ih]
      have e : ∀ (j : Nat), decide (j < k + 1) = (decide (j < k) || j == k) := fun j => by rw [Bool.eq_iff_iff]; simp; omega
      simp only [List.filter_cons, List.filter_nil, e, isOf, List.contains_cons, List.contains_nil, Bool.or_false]
      by_cases a0 : k = i0
      · subst a0; simp [show ¬ i1 < k by omega, show ¬ i2 < k by omega, show ¬ i3 < k by omega, show i1 ≠ k by omega, show i2 ≠ k by omega, show i3 ≠ k by omega]
      by_cases a1 : k = i1
      · subst a1; simp [show i0 < k by omega, show ¬ i2 < k by omega, show ¬ i3 < k by omega, show i2 ≠ k by omega, show i3 ≠ k by omega]
      by_cases a2 : k = i2
      · subst a2; simp [show i0 < k by omega, show i1 < k by omega, show ¬ i3 < k by omega, show i3 ≠ k by omega]
      by_cases a3 : k = i3
      · subst a3; simp [show i0 < k by omega, show i1 < k by omega, show i2 < k by omega]
      · have b0 : (i0 == k) = false := beq_eq_false_iff_ne.2 (fun h => a0 h.symm)
        have b1 : (i1 == k) = false := beq_eq_false_iff_ne.2 (fun h => a1 h.symm)
        have b2 : (i2 == k) = false := beq_eq_false_iff_ne.2 (fun h => a2 h.symm)
        have b3 : (i3 == k) = false := beq_eq_false_iff_ne.2 (fun h => a3 h.symm)
        simp [a0, a1, a2, a3, b0, b1, b2, b3]
  intro k hk
  rw [key]
  simp [show i0 < k by omega, show i1 < k by omega, show i2 < k by omega, hk]
/-- One turn. -/
theorem turn {cs : List Int} {i0 i1 i2 i3 : Nat} (h1 : i0 < i1) (h2 : i1 < i2) (h3 : i2 < i3) (h4 : i3 < cs.length) (hp : ∀ c ∈ cs, 1 ≤ c) :
    (restTo cs [i0, i1, i2, i3] cs.length).length + 4 = cs.length ∧ (restTo cs [i0, i1, i2, i3] cs.length).sum + inTo cs [i0, i1, i2, i3] cs.length = cs.sum ∧ 4 ≤ inTo cs [i0, i1, i2, i3] cs.length ∧ ∀ c ∈ restTo cs [i0, i1, i2, i3] cs.length, 1 ≤ c := by
  have hl := rest_len cs [i0, i1, i2, i3] cs.length
  have hf := in_four h1 h2 h3 cs.length h4
  rw [hf] at hl
  have hb := both_sum cs [i0, i1, i2, i3] cs.length (Nat.le_refl _)
  rw [List.take_length] at hb
  refine ⟨hl, hb, ?_, fun c hc => hp c (rest_mem (Nat.le_refl _) hc)⟩
  unfold inTo
  rw [hf]
  have g : ∀ i, i < cs.length → 1 ≤ cs.getD i 0 := fun i hi => by
    have hc : cs.getD i 0 = cs[i] := by rw [List.getD_eq_getElem?_getD, List.getElem?_eq_getElem hi]; rfl
    rw [hc]
    exact hp _ (List.getElem_mem _)
  have g0 := g i0 (by omega)
  have g1 := g i1 (by omega)
  have g2 := g i2 (by omega)
  have g3 := g i3 h4
  simp only [List.map_cons, List.map_nil, List.sum_cons, List.sum_nil]
  omega
end Go.Proofs.Ytepbnclpiojoaaa.PnStep
