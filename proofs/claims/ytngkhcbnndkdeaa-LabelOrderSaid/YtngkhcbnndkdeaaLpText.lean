/- Plain: the reading of a list's text, step by step as the program goes. No conditions. -/
import Derived.Test.YtngkhcbnndkdeaaLbText
import Derived.Lib.IndexMore
import Derived.Lib.Strings
import Derived.Lib.Bytealg
namespace Go.Proofs.Ytngkhcbnndkdeaa.LpText
open Go UtSpec Less LbSpec LbText

/-- The byte that is told behind a backslash. -/
def escd : List UInt8 → Option UInt8
  | [] => none
  | d :: _ => if d = 34 ∨ d = 92 then some d else if d = 110 then some 10 else none
theorem escd_cons (d : UInt8) (t : List UInt8) : escd (d :: t) = if d = 34 ∨ d = 92 then some d else if d = 110 then some 10 else none := rfl
theorem un_cons (c : UInt8) (t : List UInt8) : un (c :: t) = if c = 34 then some ([], t) else if c = 10 then none else if c = 92 then (match escd t with | none => none | some x => (un (t.drop 1)).map fun p => (x :: p.1, p.2)) else (un t).map fun p => (c :: p.1, p.2) := by
  cases t with
  | nil =>
    rw [un_one]
    by_cases h1 : c = 34
    · rw [if_pos h1, if_pos h1]
    · rw [if_neg h1, if_neg h1]
      by_cases h2 : c = 10
      · rw [if_pos h2]
      · rw [if_neg h2]
        by_cases h3 : c = 92
        · rw [if_pos h3]; rfl
        · rw [if_neg h3]; rfl
  | cons d t =>
    rw [un_two]
    by_cases h1 : c = 34
    · rw [if_pos h1, if_pos h1]
    · rw [if_neg h1, if_neg h1]
      by_cases h2 : c = 10
      · rw [if_pos h2, if_pos h2]
      · rw [if_neg h2, if_neg h2]
        by_cases h3 : c = 92
        · rw [if_pos h3, if_pos h3]
          rw [escd_cons]
          by_cases h4 : d = 34 ∨ d = 92
          · rw [if_pos h4, if_pos h4]; rfl
          · rw [if_neg h4, if_neg h4]
            by_cases h5 : d = 110
            · rw [if_pos h5, if_pos h5]; rfl
            · rw [if_neg h5, if_neg h5]
        · rw [if_neg h3, if_neg h3]
theorem pre1 (l : List UInt8) (c : UInt8) : Lib.hasPrefix l [c] = decide (l.head? = some c) := by
  unfold Lib.hasPrefix
  cases l with
  | nil => rfl
  | cons d t =>
    simp [List.isPrefixOf]
    rw [Bool.eq_iff_iff]
    simp only [beq_iff_eq, decide_eq_true_eq]
    exact eq_comm
theorem trim1 (l : List UInt8) (c : UInt8) : Lib.trimPrefix l [c] = if l.head? = some c then l.tail else l := by
  unfold Lib.trimPrefix
  rw [pre1]
  by_cases h : l.head? = some c
  · simp [h]
  · simp [h]
theorem has_byte (l : List UInt8) (c : UInt8) : decide (0 ≤ Lib.indexByte l c) = l.contains c := by
  rw [Bool.eq_iff_iff, decide_eq_true_eq, List.contains_iff_mem]
  induction l with
  | nil => simp [Lib.indexByte]
  | cons b l ih =>
    rw [Lib.indexByte]
    by_cases h : b = c
    · subst h; simp
    · have hb : (b == c) = false := by simpa using h
      rw [hb, if_neg (by simp)]
      have hge : -1 ≤ Lib.indexByte l c := by
        clear ih
        induction l with
        | nil => simp [Lib.indexByte]
        | cons d l ih2 =>
          rw [Lib.indexByte]
          split
          · omega
          · split <;> omega
      by_cases h2 : Lib.indexByte l c = -1
      · rw [h2] at ih ⊢
        simp at ih ⊢
        exact ⟨fun e => h e.symm, ih⟩
      · rw [if_neg (by simpa using h2)]
        have : 0 ≤ Lib.indexByte l c := by omega
        have hm := ih.1 this
        constructor
        · intro _; exact List.mem_cons_of_mem _ hm
        · intro _; omega
theorem index_nm : ∀ t : List UInt8, Lib.index t [61, 34] = match nm t with | none => -1 | some p => (p.1.length : Int)
  | [] => rfl
  | c :: t => by
    have ih := index_nm t
    rw [Lib.index, nm]
    have hp : ([61, 34] : List UInt8).isPrefixOf (c :: t) = decide (c = 61 ∧ t.head? = some 34) := by
      cases t with
      | nil => simp [List.isPrefixOf]
      | cons d t =>
        simp only [List.isPrefixOf, List.head?_cons, Option.some.injEq, Bool.and_true]
        rw [Bool.eq_iff_iff]
        simp only [Bool.and_eq_true, beq_iff_eq, decide_eq_true_eq]
        constructor
        · rintro ⟨h1, h2⟩; exact ⟨h1.symm, h2.symm⟩
        · rintro ⟨h1, h2⟩; exact ⟨h1.symm, h2.symm⟩
    rw [hp]
    by_cases h : c = 61 ∧ t.head? = some 34
    · rw [if_pos (by simpa using h), if_pos h]; rfl
    · rw [if_neg (by simpa using h), if_neg h]
      cases hn : nm t with
      | none => rw [hn] at ih; simp only [ih]; rfl
      | some p =>
        rw [hn] at ih
        simp only [] at ih
        rw [ih, if_neg (by simp)]
        simp
/-- Where a name ends, as the library cuts. -/
theorem cut_nm (t : List UInt8) : Lib.cut t [61, 34] = match nm t with | none => (t, [], false) | some p => (p.1, p.2, true) := by
  unfold Lib.cut
  rw [index_nm]
  cases hn : nm t with
  | none => rfl
  | some p =>
    obtain ⟨n, r⟩ := p
    simp only []
    rw [if_pos (by omega)]
    have h := nm_inv t hn
    rw [h]
    simp

/-! ### The list's labels -/
theorem one_less {t r : List UInt8} {x : Lab} (h : oneR t = some (x, r)) : r.length + 3 ≤ t.length := by
  have h1 := one_inv h
  have h2 := one_len x
  rw [h1, List.length_append]
  omega
theorem fuel : ∀ (n f g : Nat) (t : List UInt8), t.length ≤ n → n ≤ f → n ≤ g → itemsF f t = itemsF g t
  | 0, f, g, t, h, _, _ => by
    have : t = [] := List.eq_nil_of_length_eq_zero (by omega)
    subst this
    have hz : ∀ f, itemsF f [] = none := by
      intro f
      cases f with
      | zero => rfl
      | succ f => rfl
    rw [hz, hz]
  | n + 1, 0, g, t, _, h, _ => by omega
  | n + 1, f + 1, 0, t, _, _, h => by omega
  | n + 1, f + 1, g + 1, t, h, hf, hg => by
    rw [itemsF, itemsF]
    cases ho : oneR t with
    | none => rfl
    | some p =>
      obtain ⟨x, r⟩ := p
      simp only []
      have hl := one_less ho
      rw [fuel n f g r.tail (by rw [List.length_tail]; omega) (by omega) (by omega)]
def items (t : List UInt8) : Option (List Lab × List UInt8) := itemsF t.length t
theorem items_eq (t : List UInt8) : items t = match oneR t with | none => none | some (x, r) => if r.head? = some 44 then (items r.tail).map fun p => (x :: p.1, p.2) else some ([x], r) := by
  unfold items
  cases t with
  | nil => rfl
  | cons c t =>
    rw [List.length_cons, itemsF]
    cases ho : oneR (c :: t) with
    | none => rfl
    | some p =>
      obtain ⟨x, r⟩ := p
      simp only []
      have hl := one_less ho
      rw [fuel r.tail.length t.length r.tail.length r.tail (Nat.le_refl _) (by rw [List.length_tail]; rw [List.length_cons] at hl; omega) (Nat.le_refl _)]
/-- From a place within the braces on, the labels that have been read in hand. -/
def parseI (t : List UInt8) (acc : List Lab) : Option (List Lab) := match items t with | none => none | some (l, r) => if r = [125] then some (acc ++ l) else none
theorem parseI_none {t : List UInt8} (acc : List Lab) (h : oneR t = none) : parseI t acc = none := by unfold parseI; rw [items_eq, h]
theorem parseI_some {t r : List UInt8} {x : Lab} (acc : List Lab) (h : oneR t = some (x, r)) : parseI t acc = if r = [125] then some (acc ++ [x]) else if r.head? = some 44 then parseI r.tail (acc ++ [x]) else none := by
  unfold parseI
  rw [items_eq, h]
  simp only []
  by_cases h1 : r = [125]
  · rw [if_pos h1, h1]
    rfl
  · rw [if_neg h1]
    by_cases h2 : r.head? = some 44
    · rw [if_pos h2, if_pos h2]
      cases hi : items r.tail with
      | none => rfl
      | some p =>
        obtain ⟨l, r2⟩ := p
        simp
    · rw [if_neg h2, if_neg h2]
      simp only []
      rw [if_neg h1]
theorem parse_eq (s : List UInt8) : parse s = if s.head? = some 123 then (if s.tail = [125] then some [] else parseI s.tail []) else none := by
  unfold parse
  cases s with
  | nil => rfl
  | cons c t =>
    simp only [List.head?_cons, List.tail_cons, Option.some.injEq, List.cons.injEq, List.length_cons]
    by_cases hc : c = 123
    · by_cases ht : t = [125]
      · rw [if_pos ⟨hc, ht⟩, if_pos hc]
        exact (if_pos ht).symm
      · rw [if_neg (fun h => ht h.2), if_pos hc, if_pos hc]
        refine Eq.trans ?_ (if_neg ht).symm
        unfold parseI items
        rw [fuel t.length (t.length + 1) t.length t (Nat.le_refl _) (by omega) (Nat.le_refl _)]
        cases itemsF t.length t with
        | none => rfl
        | some p =>
          obtain ⟨l, r⟩ := p
          simp
    · rw [if_neg (fun h => hc h.1), if_neg hc, if_neg hc]
theorem parseI_len {t r : List UInt8} {x : Lab} (h : oneR t = some (x, r)) : r.length + 3 ≤ t.length := one_less h

/-! ### In order -/
theorem asc_of_falls : ∀ {l : List Lab}, (l.map Prod.fst).Nodup → (∀ j (h : j + 1 < l.length), less (l[j + 1]).1 (l[j]).1 = false) → Asc l
  | [], _, _ => List.Pairwise.nil
  | [x], _, _ => by unfold Asc; simp
  | x :: y :: t, hd, h => by
    have hd2 := hd
    rw [List.map_cons, List.nodup_cons] at hd2
    have ih := asc_of_falls (l := y :: t) hd2.2 (fun j hj => by have := h (j + 1) (by simpa using hj); simpa using this)
    have h0 := h 0 (by simp)
    simp at h0
    have hxy : less x.1 y.1 = true := by
      have hne : x.1 ≠ y.1 := fun e => hd2.1 (by rw [e]; simp)
      rcases less_total hne with h3 | h3
      · exact h3
      · rw [h0] at h3; cases h3
    unfold Asc at ih ⊢
    rw [List.pairwise_cons]
    refine ⟨fun z hz => ?_, ih⟩
    rcases List.mem_cons.1 hz with rfl | hz
    · exact hxy
    · rw [List.pairwise_cons] at ih
      exact less_trans hxy (ih.1 z hz)
theorem falls_of_asc {l : List Lab} (h : Asc l) (j : Nat) (hj : j + 1 < l.length) : less (l[j + 1]).1 (l[j]).1 = false := by
  unfold Asc at h
  rw [List.pairwise_iff_getElem] at h
  have h1 := h j (j + 1) (by omega) hj (by omega)
  cases h2 : less (l[j + 1]).1 (l[j]).1 with
  | false => rfl
  | true => have := less_trans h1 h2; rw [less_irrefl] at this; cases this
/-- A list that may be stands in order just if it is its own canonical list. -/
theorem order_iff {l : List Lab} (h : (canon l).1 = 0) : (∀ j (h : j + 1 < l.length), less (l[j + 1]).1 (l[j]).1 = false) ↔ cmp (canon l).2 l = 0 := by
  have hm := may_iff.2 h
  rw [canon_may hm, cmp_eq]
  constructor
  · intro hf
    exact sort_self (asc_of_falls hm.nodup hf)
  · intro e j hj
    have ha := sort_asc hm.nodup
    simp only at e
    rw [e] at ha
    exact falls_of_asc ha j hj
theorem read_of (s : List UInt8) : read s = match parse s with | none => (6, []) | some l => if (canon l).1 ≠ 0 then ((canon l).1, []) else if cmp (canon l).2 l ≠ 0 then (6, []) else (0, (canon l).2) := rfl
end Go.Proofs.Ytngkhcbnndkdeaa.LpText
