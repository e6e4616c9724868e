/- The document's own disk: its files as one list of cells, and the contract of its 'take' (a file away). Conditions: the disk lies in memory as 'RefD' says; the place is a file's. -/
import Derived.Test.YtfblekedgenacaaRefChange
import Derived.Test.YtfblekedgenacaaAppendN
namespace Go.Proofs.Ytfblekedgenacaa.RefRow
open Go Go.RowKit Words DkSpec RefDisk RefChange AppN

/-- The cells of a list of files. -/
inductive FCells (w : World) (K : Nat → Nat) : List DFile → List Value → Prop
  | nil : FCells w K [] []
  | cons {f : DFile} {l : List DFile} {cs : List Value} {A : Option Addr} {c : Nat} (hc : f.data.length ≤ c) (hm : c ≤ maxLen) (hr : Rd w w.heap.size A (f.data.map B8)) (hk : ∀ b off, A = some ⟨b, off, none⟩ → 0 < f.data.length → K b = 0) (h : FCells w K l cs) :
      FCells w K (f :: l) (S8 f.name :: .slice A f.data.length c :: .int .i64 (f.synced : Int) :: cs)
section
variable {w : World} {K : Nat → Nat}
theorem FCells.length {l : List DFile} {cs : List Value} (h : FCells w K l cs) : cs.length = l.length * 3 := by
  induction h with
  | nil => rfl
  | cons _ _ _ _ _ ih => simp only [List.length_cons, ih]; omega
theorem FCells.append {l l' : List DFile} {cs cs' : List Value} (h : FCells w K l cs) (h' : FCells w K l' cs') : FCells w K (l ++ l') (cs ++ cs') := by
  induction h with
  | nil => exact h'
  | cons a b c d _ ih => exact .cons a b c d ih
theorem FCells.take {l : List DFile} {cs : List Value} (h : FCells w K l cs) : ∀ i, FCells w K (l.take i) (cs.take (i * 3)) := by
  induction h with
  | nil => intro i; simpa using FCells.nil
  | cons a b c d _ ih =>
    intro i
    cases i with
    | zero => simpa using FCells.nil
    | succ i =>
      rw [show (i + 1) * 3 = i * 3 + 1 + 1 + 1 by omega]
      exact .cons a b c d (ih i)
theorem FCells.drop {l : List DFile} {cs : List Value} (h : FCells w K l cs) : ∀ i, FCells w K (l.drop i) (cs.drop (i * 3)) := by
  induction h with
  | nil => intro i; simpa using FCells.nil
  | cons a b c d h ih =>
    intro i
    cases i with
    | zero => simpa using FCells.cons a b c d h
    | succ i =>
      rw [show (i + 1) * 3 = i * 3 + 1 + 1 + 1 by omega]
      exact ih i
theorem FCells.one {l : List DFile} {cs : List Value} (h : FCells w K l cs) : ∀ u ∈ cs, u.oneCell' = true := by
  induction h with
  | nil => intro u hu; cases hu
  | cons _ _ _ _ _ ih =>
    intro u hu
    rcases List.mem_cons.1 hu with rfl | hu
    · rfl
    rcases List.mem_cons.1 hu with rfl | hu
    · rfl
    rcases List.mem_cons.1 hu with rfl | hu
    · rfl
    exact ih u hu
/-- The cells stay while only a disk's own blocks change. -/
theorem FCells.turned {K' : Nat → Nat} {o : Nat} {w' : World} {l : List DFile} {cs : List Value} (h : FCells w K l cs) (ht : Turned K K' o w w') (ho : o ≠ 0) : FCells w' K' l cs := by
  induction h with
  | nil => exact .nil
  | cons a b c d _ ih =>
    refine .cons a b (rd_turned ht ho c (by simpa using d)) (fun b' off' e hl => ?_) ih
    obtain ⟨b2, off2, e2, hb2, _⟩ := c (by simpa using hl)
    rw [e] at e2
    injection e2 with e2
    injection e2 with e2
    subst e2
    exact (ht.kind b' hb2).trans (d b' off' e hl)
theorem FCells.at {l : List DFile} {cs : List Value} (h : FCells w K l cs) : ∀ i f, l[i]? = some f → cs[i * 3]? = some (S8 f.name) ∧ (∃ A' c', cs[i * 3 + 1]? = some (.slice A' f.data.length c') ∧ f.data.length ≤ c' ∧ c' ≤ maxLen ∧ Rd w w.heap.size A' (f.data.map B8) ∧ (∀ b off', A' = some ⟨b, off', none⟩ → 0 < f.data.length → K b = 0)) ∧ cs[i * 3 + 2]? = some (.int .i64 (f.synced : Int)) := by
  induction h with
  | nil => intro i f hi; simp at hi
  | @cons f0 l0 cs0 A c a b r d _ ih =>
    intro i f hi
    cases i with
    | zero =>
      simp only [List.getElem?_cons_zero, Option.some.injEq] at hi
      subst hi
      exact ⟨rfl, ⟨A, c, rfl, a, b, r, d⟩, rfl⟩
    | succ i =>
      simp only [List.getElem?_cons_succ] at hi
      rw [show (i + 1) * 3 = i * 3 + 1 + 1 + 1 by omega]
      exact ih i f hi
/-- A row of cells is a row of files. -/
theorem row_of {o : Nat} {A : Option Addr} {l : List DFile} {cs : List Value} (h : FCells w K l cs) (hr : Rd w w.heap.size A cs) (hk : ∀ b off, A = some ⟨b, off, none⟩ → K b = o) (hz : ∀ b off, A = some ⟨b, off, none⟩ → ∀ j, w.frozen? ⟨b, j, none⟩ = false) : FRow w K o A l := fun hn => by
  have hl := h.length
  obtain ⟨g, off, e, hg, hc⟩ := hr (by omega)
  refine ⟨g, off, e, hg, hk g off e, hz g off e, fun i f hi => ?_⟩
  obtain ⟨h0, ⟨A', c', h1, h1a, h1b, h1c, h1d⟩, h2⟩ := h.at i f hi
  exact ⟨hc _ _ h0, ⟨A', c', by rw [Nat.add_assoc]; exact hc _ _ h1, h1a, h1b, h1c, h1d⟩, by rw [Nat.add_assoc]; exact hc _ _ h2⟩
/-- And the other way round. -/
theorem row_cells {o : Nat} : ∀ (l : List DFile) {A : Option Addr}, FRow w K o A l → ∃ cs, FCells w K l cs ∧ Rd w w.heap.size A cs := by
  intro l A h
  have key : ∀ (l : List DFile) (g off : Nat), (∀ i f, l[i]? = some f → w.cell? ⟨g, off + i * 3, none⟩ = some (S8 f.name) ∧ (∃ A' c', w.cell? ⟨g, off + i * 3 + 1, none⟩ = some (.slice A' f.data.length c') ∧ f.data.length ≤ c' ∧ c' ≤ maxLen ∧ Rd w w.heap.size A' (f.data.map B8) ∧ (∀ b off', A' = some ⟨b, off', none⟩ → 0 < f.data.length → K b = 0)) ∧
      w.cell? ⟨g, off + i * 3 + 2, none⟩ = some (.int .i64 (f.synced : Int))) → ∃ cs, FCells w K l cs ∧ ∀ j u, cs[j]? = some u → w.cell? ⟨g, off + j, none⟩ = some u := by
    intro l
    induction l with
    | nil => intro g off _; exact ⟨[], .nil, fun j u hu => by simp at hu⟩
    | cons f r ih =>
      intro g off h
      obtain ⟨k0, ⟨A', c', k1, k1a, k1b, k1c, k1d⟩, k2⟩ := h 0 f rfl
      obtain ⟨cs, hcs, hcell⟩ := ih g (off + 3) (fun i f' hi => by
        have h3 := h (i + 1) f' (by simpa using hi)
        rw [show off + (i + 1) * 3 = off + 3 + i * 3 by omega] at h3
        exact h3)
      refine ⟨_, .cons k1a k1b k1c k1d hcs, fun j u hu => ?_⟩
      match j, hu with
      | 0, hu => simp at hu; subst hu; simpa using k0
      | 1, hu => simp at hu; subst hu; simpa using k1
      | 2, hu => simp at hu; subst hu; simpa using k2
      | j + 3, hu =>
        rw [show off + (j + 3) = off + 3 + j by omega]
        exact hcell j u (by simpa using hu)
  by_cases hn : 0 < l.length
  · obtain ⟨g, off, e, hg, _, _, hc⟩ := h hn
    obtain ⟨cs, h1, h2⟩ := key l g off hc
    exact ⟨cs, h1, fun _ => ⟨g, off, e, hg, h2⟩⟩
  · obtain rfl : l = [] := List.eq_nil_of_length_eq_zero (by omega)
    exact ⟨[], .nil, Rd.nil_⟩
end
end Go.Proofs.Ytfblekedgenacaa.RefRow
