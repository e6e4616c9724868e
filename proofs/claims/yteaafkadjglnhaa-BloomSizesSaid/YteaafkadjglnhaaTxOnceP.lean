/- The contract of the program's once: a row of the call's own is sorted, and each text stands once. Condition: the row is below 2^40 texts. -/
import Derived.Test.YteaafkadjglnhaaTxOnce
import Derived.Test.YteaafkadjglnhaaTxShelf
import Derived.Sort.OwnSorted
import Derived.Sort.KeysCollected
import Derived.Sort.Grow
import Derived.Lib.OwnBridge
import Derived.Lib.SlicesCompact
namespace Go.Proofs.Yteaafkadjglnhaa.TxOnceP
open Go Go.RowKit Go.Sort Words App Less UtOwn TxOnce

theorem keeps_iff {l : List (List UInt8)} {j : Nat} (hj : j < l.length) : Lib.keeps l.toArray j = true ↔ j = 0 ∨ l[j]? ≠ l[j - 1]? := by
  unfold Lib.keeps
  rw [decide_eq_true_eq]
  have h1 : l.toArray[j]! = l[j] := by simp [hj]
  have h2 : l.toArray[j - 1]! = l[j - 1] := by simp [show j - 1 < l.length by omega]
  rw [h1, h2, List.getElem?_eq_getElem hj, List.getElem?_eq_getElem (show j - 1 < l.length by omega)]
  simp
theorem mem_compact {l : List (List UInt8)} {z : List UInt8} : z ∈ Lib.compact l ↔ z ∈ l := by
  unfold Lib.compact Lib.compactUpTo
  rw [List.mem_map]
  constructor
  · rintro ⟨j, hj, rfl⟩
    have hj' : j < l.length := List.mem_range.1 (List.mem_filter.1 hj).1
    rw [show l.toArray[j]! = l[j] by simp [hj']]
    exact List.getElem_mem hj'
  · intro hz
    obtain ⟨k, hk, rfl⟩ := List.mem_iff_getElem.1 hz
    -- the first place of it
    have key : ∀ k : Nat, ∀ hk : k < l.length, ∃ j : Nat, ∃ hj : j < l.length, Lib.keeps l.toArray j = true ∧ l[j] = l[k] := by
      intro k
      induction k with
      | zero => intro hk; exact ⟨0, hk, (keeps_iff hk).2 (.inl rfl), rfl⟩
      | succ k ih =>
        intro hk
        by_cases e : l[k + 1] = l[k]
        · obtain ⟨j, hj, h1, h2⟩ := ih (by omega)
          exact ⟨j, hj, h1, by rw [h2, e]⟩
        · refine ⟨k + 1, hk, (keeps_iff hk).2 (.inr ?_), rfl⟩
          rw [List.getElem?_eq_getElem hk, Nat.add_sub_cancel, List.getElem?_eq_getElem (by omega)]
          simpa using e
    obtain ⟨j, hj, h1, h2⟩ := key k hk
    exact ⟨j, List.mem_filter.2 ⟨List.mem_range.2 hj, h1⟩, by rw [show l.toArray[j]! = l[j] by simp [hj]]; exact h2⟩
theorem rises_compact {l : List (List UInt8)} (h : l.Pairwise fun a b => a ≤ b) : Rises (Lib.compact l) := by
  unfold Rises Lib.compact Lib.compactUpTo
  rw [List.pairwise_map]
  refine List.Pairwise.imp_of_mem ?_ ((List.pairwise_lt_range (n := l.length)).filter (Lib.keeps l.toArray))
  intro i j hi hj hij
  have hi' : i < l.length := List.mem_range.1 (List.mem_filter.1 hi).1
  have hj' : j < l.length := List.mem_range.1 (List.mem_filter.1 hj).1
  have hk := (keeps_iff hj').1 (List.mem_filter.1 hj).2
  rw [show l.toArray[i]! = l[i] by simp [hi'], show l.toArray[j]! = l[j] by simp [hj']]
  have hP := List.pairwise_iff_getElem.1 h
  rcases hk with hk | hk
  · omega
  rw [List.getElem?_eq_getElem hj', List.getElem?_eq_getElem (show j - 1 < l.length by omega)] at hk
  have hne : l[j] ≠ l[j - 1] := by simpa using hk
  have h1 : l[j - 1] ≤ l[j] := hP (j - 1) j (by omega) hj' (by omega)
  have h2 : less l[j - 1] l[j] = true := by
    rcases less_total (fun e : l[j - 1] = l[j] => hne e.symm) with h | h
    · exact h
    · rw [less_lt] at h
      exact absurd h (List.not_lt.2 h1)
  by_cases e : i = j - 1
  · subst e
    exact h2
  · have h3 : l[i] ≤ l[j - 1] := hP i (j - 1) hi' (by omega) (by omega)
    by_cases e2 : l[i] = l[j - 1]
    · rw [e2]; exact h2
    · rcases less_total e2 with h | h
      · exact less_trans h h2
      · rw [less_lt] at h
        exact absurd h (List.not_lt.2 h3)
theorem compact_once (ws : List (List UInt8)) : Lib.compact (ws.mergeSort fun x y => decide (x ≤ y)) = once ws := by
  have hs : (ws.mergeSort fun x y => decide (x ≤ y)).Pairwise fun a b => a ≤ b := by
    have h := List.pairwise_mergeSort (le := fun x y : List UInt8 => decide (x ≤ y)) (fun a b c h1 h2 => by simp only [decide_eq_true_eq] at *; exact List.le_trans h1 h2) (fun a b => by simp only [Bool.or_eq_true, decide_eq_true_eq]; exact List.le_total a b) ws
    exact h.imp fun h => by simpa using h
  exact rises_ext (rises_compact hs) (rises_once ws) fun z => by rw [mem_compact, mem_once, List.mem_mergeSort]

def PPost (ws : List (List UInt8)) (base : Nat) (w : World) (e : Ending) (w' : World) : Prop :=
  ∃ v, e = .returned v ∧ w'.ownsRow base 9 1 v (once ws).length ((once ws).map S8) ∧ ∀ B w0, B ≤ base → Below B w0 w → Below B w0 w'

end Go.Proofs.Yteaafkadjglnhaa.TxOnceP
