/- Plain words for PlanEnds: the segments that it makes of numbers, what one turn leaves of them. Conditions: those that the theorems name. -/
import Derived.Test.YtepbnclpiojoaaaPnStep
import Derived.Test.YtepbnclpiojoaaaSgMem
namespace Go.Proofs.Ytepbnclpiojoaaa.PnEndsP
open PnSpec PnEnds PnStep SgMem

def segTo (ns : List Nat) (k : Nat) : List Sg := (List.range k).map fun (i : Nat) => ⟨((i : Nat) : Int) + 1, ((ns.getD i 0 : Nat) : Int) + 1, 0, 0⟩
def cnts (l : List Sg) : List Int := l.map Sg.count
theorem segTo_succ (ns : List Nat) (k : Nat) : segTo ns (k + 1) = segTo ns k ++ [⟨(k : Int) + 1, ((ns.getD k 0 : Nat) : Int) + 1, 0, 0⟩] := by
  unfold segTo; rw [List.range_succ, List.map_append]; rfl
theorem segTo_len (ns : List Nat) (k : Nat) : (segTo ns k).length = k := by simp [segTo]
theorem cnts_snoc (l : List Sg) (x : Sg) : (cnts (l ++ [x])).sum = (cnts l).sum + x.count := by simp [cnts]
theorem segTo_pos (ns : List Nat) (k : Nat) : ∀ c ∈ cnts (segTo ns k), 1 ≤ c := by
  intro c hc
  unfold cnts segTo at hc
  rw [List.map_map] at hc
  obtain ⟨i, _, rfl⟩ := List.mem_map.1 hc
  simp only [Function.comp]
  omega
theorem getD_le {ns : List Nat} (h : ∀ x ∈ ns, x ≤ 65535) (k : Nat) : ns.getD k 0 ≤ 65535 := by
  rw [List.getD_eq_getElem?_getD]
  cases hk : ns[k]? with
  | none => simp
  | some x => exact h x (List.mem_of_getElem? hk)
theorem segTo_sum {ns : List Nat} (h : ∀ x ∈ ns, x ≤ 65535) : ∀ k, 0 ≤ (cnts (segTo ns k)).sum ∧ (cnts (segTo ns k)).sum ≤ 65536 * k
  | 0 => by simp [cnts, segTo]
  | k + 1 => by
    have ih := segTo_sum h k
    have h1 := getD_le h k
    rw [segTo_succ, cnts_snoc]
    simp only
    omega
/-- The others, as segments. -/
def restS (l : List Sg) (L : List Nat) (k : Nat) : List Sg := ((List.range k).filter fun i => !isOf L i).map fun i => l.getD i ⟨0, 0, 0, 0⟩
theorem restS_succ {l : List Sg} {L : List Nat} {k : Nat} (hk : k < l.length) : restS l L (k + 1) = if isOf L k = true then restS l L k else restS l L k ++ [l[k]] := by
  have hd : l.getD k ⟨0, 0, 0, 0⟩ = l[k] := by rw [List.getD_eq_getElem?_getD, List.getElem?_eq_getElem hk]; rfl
  unfold restS
  rw [List.range_succ, List.filter_append, List.map_append]
  by_cases h : isOf L k = true
  · rw [if_pos h, List.filter_cons, if_neg (by simp [h])]
    exact List.append_nil _
  · rw [if_neg h, List.filter_cons, if_pos (by simp [h])]
    simp only [List.filter_nil, List.map_cons, List.map_nil, hd]
theorem restS_cnts (l : List Sg) (L : List Nat) (k : Nat) : cnts (restS l L k) = restTo (cnts l) L k := by
  unfold cnts restS restTo
  rw [List.map_map]
  apply List.map_congr_left
  intro i _
  simp only [Function.comp, List.getD_eq_getElem?_getD, List.getElem?_map]
  cases l[i]? <;> rfl
theorem restS_len (l : List Sg) (L : List Nat) (k : Nat) : (restS l L k).length ≤ k := by
  have := List.length_filter_le (fun i => !isOf L i) (List.range k)
  rw [List.length_range] at this
  unfold restS
  rw [List.length_map]
  exact this
theorem cnts_at {l : List Sg} {k : Nat} (h : k < l.length) : (cnts l).getD k 0 = (l[k]).count := by simp [cnts, List.getD_eq_getElem?_getD, h]
/-- What holds between two turns. -/
structure Run (l : List Sg) (tn : Nat) : Prop where
  pos : ∀ c ∈ cnts l, 1 ≤ c
  most : (cnts l).sum ≤ 65536
  few : l.length + 3 * tn ≤ 300
theorem Run.each {l : List Sg} {tn : Nat} (h : Run l tn) : ∀ x ∈ l, 1 ≤ x.count ∧ x.count ≤ 65536 := fun x hx => by
  have hm : x.count ∈ cnts l := List.mem_map.2 ⟨x, hx, rfl⟩
  have h1 := elem_le h.pos hm
  have h2 := h.most
  exact ⟨h.pos _ hm, by omega⟩
theorem Run.ok {l : List Sg} {tn : Nat} (h : Run l tn) : ∀ x ∈ l, In64 x.count := fun x hx => by
  have := h.each x hx
  exact ⟨by omega, by omega⟩
theorem Run.low {l : List Sg} {tn : Nat} (h : Run l tn) : 0 ≤ (cnts l).sum := by
  rw [← sum_pos h.pos]
  have := sub_sum (fun c : Int => max c 0) (fun a => by omega) (List.nil_sublist (cnts l))
  simpa using this
theorem cnts_len (l : List Sg) : (cnts l).length = l.length := by simp [cnts]
/-- Between 0 and all. -/
theorem inTo_le {l : List Sg} {tn : Nat} (h : Run l tn) (L : List Nat) (k : Nat) (hk : k ≤ l.length) : 0 ≤ inTo (cnts l) L k ∧ inTo (cnts l) L k ≤ 65536 * k := by
  induction k with
  | zero => simp [inTo]
  | succ k ih =>
    have ih := ih (by omega)
    have h1 := h.each _ (List.getElem_mem (show k < l.length by omega))
    rw [inTo_succ, cnts_at (by omega)]
    split <;> omega
/-- One turn. -/
theorem Run.next {l : List Sg} {tn i0 i1 i2 i3 : Nat} (h : Run l tn) (h1 : i0 < i1) (h2 : i1 < i2) (h3 : i2 < i3) (h4 : i3 < l.length) :
    (restS l [i0, i1, i2, i3] l.length).length + 4 = l.length ∧ 4 ≤ inTo (cnts l) [i0, i1, i2, i3] l.length ∧ inTo (cnts l) [i0, i1, i2, i3] l.length ≤ 65536 ∧
      ∀ (n id : Int), 1 ≤ n → n ≤ inTo (cnts l) [i0, i1, i2, i3] l.length → Run (restS l [i0, i1, i2, i3] l.length ++ [⟨id, n, 0, 0⟩]) (tn + 1) ∧
        (cnts (restS l [i0, i1, i2, i3] l.length ++ [⟨id, n, 0, 0⟩])).sum = (cnts l).sum - (inTo (cnts l) [i0, i1, i2, i3] l.length - n) := by
  obtain ⟨t1, t2, t3, t4⟩ := turn h1 h2 h3 (by rw [cnts_len]; exact h4) h.pos
  rw [cnts_len, ← restS_cnts, cnts_len] at t1
  rw [cnts_len, ← restS_cnts] at t2 t4
  rw [cnts_len] at t3
  have hm := h.most
  have hf := h.few
  have hlow : 0 ≤ (cnts (restS l [i0, i1, i2, i3] l.length)).sum := by
    rw [← sum_pos t4]
    have := sub_sum (fun c : Int => max c 0) (fun a => by omega) (List.nil_sublist (cnts (restS l [i0, i1, i2, i3] l.length)))
    simpa using this
  refine ⟨t1, t3, by omega, fun n id hn1 hn2 => ⟨⟨fun c hc => ?_, ?_, ?_⟩, ?_⟩⟩
  · unfold cnts at hc
    rw [List.map_append] at hc
    rcases List.mem_append.1 hc with hc | hc
    · exact t4 c hc
    · simp at hc; omega
  · rw [cnts_snoc]; simp only; omega
  · rw [List.length_append]; simp only [List.length_cons, List.length_nil]; omega
  · rw [cnts_snoc]; simp only; omega
end Go.Proofs.Ytepbnclpiojoaaa.PnEndsP
