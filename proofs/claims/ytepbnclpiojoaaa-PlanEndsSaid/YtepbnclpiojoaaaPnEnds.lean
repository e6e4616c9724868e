/- Merging comes to an end within the bound, in plain words. Of no program. Conditions: every count at least 1, together at most 65536. -/
import Derived.Test.YtepbnclpiojoaaaPnSpec
namespace Go.Proofs.Ytepbnclpiojoaaa.PnEnds
open PnSpec

theorem few_tiers : ∀ (T : Nat) (l : List Nat), (∀ x ∈ l, x < T) → (∀ t, l.count t ≤ 3) → l.length ≤ 3 * T
  | 0, l, h, _ => by
    cases l with
    | nil => exact Nat.le_refl _
    | cons x l => have := h x (by simp); omega
  | T + 1, l, h, h3 => by
    have h1 := few_tiers T (l.filter fun x => x != T) (fun x hx => by
      rw [List.mem_filter] at hx
      have := h x hx.1
      have h2 : x ≠ T := by simpa using hx.2
      omega) (fun t => Nat.le_trans (List.Sublist.count_le t List.filter_sublist) (h3 t))
    have h2 : l.length = (l.filter fun x => x != T).length + l.count T := by
      clear h h3 h1
      induction l with
      | nil => rfl
      | cons x l ih =>
        by_cases e : x = T
        · subst e
          rw [List.filter_cons, if_neg (by simp), List.count_cons_self, List.length_cons, ih]
          omega
        · rw [List.filter_cons, if_pos (by simpa using e), List.count_cons_of_ne e, List.length_cons, List.length_cons, ih]
          omega
    have := h3 T
    omega
theorem count_filter (cs : List Int) (t : Nat) : ∀ k, k ≤ cs.length → ((List.range k).filter fun i => tierI (cs.getD i 0) == t).length = ((cs.take k).map tierI).count t
  | 0, _ => by simp
  | k + 1, hk => by
    have hc : cs.getD k 0 = cs[k] := by rw [List.getD_eq_getElem?_getD, List.getElem?_eq_getElem (by omega)]; rfl
    rw [List.range_succ, List.filter_append, List.length_append, count_filter cs t k (by omega), List.take_succ_eq_append_getElem (by omega), List.map_append, List.count_append]
    congr 1
    rw [List.filter_cons, hc]
    by_cases e : tierI cs[k] = t
    · rw [if_pos (by simpa using e)]
      simp [e]
    · rw [if_neg (by simpa using e)]
      simp [e]
/-- Together at least as much as some of them. -/
theorem sub_sum {α : Type} (f : α → Int) (hf : ∀ a, 0 ≤ f a) : ∀ {l m : List α}, l.Sublist m → (l.map f).sum ≤ (m.map f).sum
  | _, _, .slnil => Int.le_refl _
  | _, _, .cons a h => by
    have := sub_sum f hf h
    have := hf a
    rw [List.map_cons, List.sum_cons]
    omega
  | _, _, .cons_cons a h => by
    have := sub_sum f hf h
    rw [List.map_cons, List.map_cons, List.sum_cons, List.sum_cons]
    omega
theorem sum_all (cs : List Int) : ∀ k, k ≤ cs.length → ((List.range k).map fun i => max (cs.getD i 0) 0).sum = ((cs.take k).map fun c => max c 0).sum
  | 0, _ => by simp
  | k + 1, hk => by
    have hc : cs.getD k 0 = cs[k] := by rw [List.getD_eq_getElem?_getD, List.getElem?_eq_getElem (by omega)]; rfl
    rw [List.range_succ, List.map_append, List.sum_append, sum_all cs k (by omega), List.take_succ_eq_append_getElem (by omega), List.map_append, List.sum_append]
    simp only [List.map_cons, List.map_nil, List.sum_cons, List.sum_nil, hc]
theorem sum_pos {cs : List Int} (h : ∀ c ∈ cs, 1 ≤ c) : (cs.map fun c => max c 0).sum = cs.sum := by
  induction cs with
  | nil => rfl
  | cons c cs ih =>
    rw [List.map_cons, List.sum_cons, List.sum_cons, ih (fun x hx => h x (by simp [hx]))]
    have := h c (by simp)
    omega
theorem sum_picks (cs : List Int) (t : Nat) (h : ∀ c ∈ cs, 1 ≤ c) : sumOf cs (picks cs t) ≤ cs.sum := by
  rw [← sum_pos h]
  have h1 := sum_all cs cs.length (Nat.le_refl _)
  rw [List.take_length] at h1
  rw [← h1]
  exact sub_sum _ (fun a => by omega) ((List.take_sublist _ _).trans List.filter_sublist)
theorem elem_le {cs : List Int} (h : ∀ c ∈ cs, 1 ≤ c) {c : Int} (hc : c ∈ cs) : c ≤ cs.sum := by
  induction cs with
  | nil => cases hc
  | cons x cs ih =>
    rw [List.sum_cons]
    have hs : 0 ≤ cs.sum := by
      rw [← sum_pos (fun y hy => h y (by simp [hy]))]
      have := sub_sum (fun c : Int => max c 0) (fun a => by omega) (List.nil_sublist cs)
      simpa using this
    rcases List.mem_cons.1 hc with rfl | hc
    · omega
    · have := ih (fun y hy => h y (by simp [hy])) hc
      have := h x (by simp)
      omega
/-- Where nothing is merged any more there are no more than the bound. -/
theorem end_bound {cs : List Int} (h : ∀ c ∈ cs, 1 ≤ c) (hs : cs.sum ≤ 65536) (hm : merge cs = []) : (cs.length : Int) ≤ bound cs.sum := by
  by_cases h0 : cs = []
  · subst h0; decide
  have hpos : 1 ≤ cs.sum := by
    obtain ⟨c, hc⟩ := List.exists_mem_of_ne_nil cs h0
    have := elem_le h hc
    have := h c hc
    omega
  have hno : ∀ t, t < 32 → fits cs t = false := by
    unfold merge at hm
    cases hf : (List.range 32).find? (fits cs) with
    | none =>
      intro t ht
      have := List.find?_eq_none.1 hf t (List.mem_range.2 ht)
      simpa using this
    | some t =>
      rw [hf] at hm
      have h1 := List.find?_some hf
      unfold fits at h1
      rw [Bool.and_eq_true] at h1
      have h2 : (picks cs t).length = 4 := by simpa using h1.1
      simp only at hm
      rw [hm] at h2
      cases h2
  have htop : ∀ x ∈ cs.map tierI, x < tierI cs.sum + 1 := by
    intro x hx
    obtain ⟨c, hc, rfl⟩ := List.mem_map.1 hx
    have := elem_le h hc
    unfold tierI
    have := tier_mono (a := c.toNat) (b := cs.sum.toNat) (by omega)
    omega
  have hT : tierI cs.sum ≤ 31 := tier_most (by omega)
  have h3 : ∀ t, (cs.map tierI).count t ≤ 3 := by
    intro t
    by_cases ht : t < 32
    · have hf := hno t ht
      unfold fits at hf
      have hsum := sum_picks cs t h
      rw [decide_eq_true (show sumOf cs (picks cs t) ≤ 65536 by omega), Bool.and_true] at hf
      have h4 : (picks cs t).length ≠ 4 := by simpa using hf
      have hc := count_filter cs t cs.length (Nat.le_refl _)
      rw [List.take_length] at hc
      rw [← hc]
      unfold picks picksTo at h4
      rw [List.length_take] at h4
      omega
    · have : (cs.map tierI).count t = 0 := List.count_eq_zero.2 (fun hx => by have := htop t hx; omega)
      omega
  have h5 := few_tiers _ _ htop h3
  rw [List.length_map] at h5
  unfold bound
  rw [if_neg (by omega)]
  omega
end Go.Proofs.Ytepbnclpiojoaaa.PnEnds
