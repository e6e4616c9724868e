/- A slice of structs as an argument, opened (for any struct of a set number of cells). Of no program. No conditions. -/
import Derived.Test.YtdmbgjpidlllcaaOpens
import Derived.Test.YtdmbgjpidlllcaaBase
import Derived.Deep.Slices
import Derived.ChangeMaps5
namespace Go.Proofs.Ytdmbgjpidlllcaa.Rows_
open Go Go.RowKit Go.WideShapes Go.ChangeShapes Words Ope Bulk

section
variable {α : Type} {cells : α → List Value} {k : Nat}
theorem rows_len (hk : ∀ x, (cells x).length = k) : ∀ l : List α, (l.flatMap cells).length = l.length * k
  | [] => by simp
  | x :: l => by rw [List.flatMap_cons, List.length_append, hk, rows_len hk l, List.length_cons, Nat.succ_mul]; omega
theorem rows_at (hk : ∀ x, (cells x).length = k) : ∀ (l : List α) (i : Nat) (hi : i < l.length) (j : Nat), j < k → (l.flatMap cells)[i * k + j]? = (cells l[i])[j]?
  | x :: l, 0, _, j, hj => by
    rw [List.flatMap_cons, Nat.zero_mul, Nat.zero_add, List.getElem?_append_left (by rw [hk]; exact hj)]
    rfl
  | x :: l, i + 1, hi, j, hj => by
    rw [List.flatMap_cons, List.getElem?_append_right (by rw [hk, Nat.succ_mul]; omega), hk, show (i + 1) * k + j - k = i * k + j by rw [Nat.succ_mul]; omega, rows_at hk l i (by simpa using hi) j hj]
    rfl
end
section
variable {H : Type} {enc : TypeId × Value → H}
set_option maxRecDepth 100000 in
theorem open_rows {α : Type} [Inhabited α] {cells : α → List Value} {k : Nat} {W : World} {t e : TypeId} {fuel : Nat} {cs : List Value} {d : DataW H} {p : List MemPlace} {Φ : α → DataW H → Prop}
    (hk : ∀ x, (cells x).length = k) (hpos : 0 < k) (ht : Try.prog.underlying t = some (.slice e)) (hc : Try.prog.cellsOf e = k)
    (helem : ∀ n cs d pl, DataW.trod enc Try.prog W 0 (fun _ => true) true n e cs = some (d, pl) → ∃ x : α, cs = cells x ∧ Φ x d)
    (h : DataW.trod enc Try.prog W 0 (fun _ => true) true fuel t cs = some (d, p)) :
    ∃ (A : Option Addr) (l : List α) (c : Nat), cs = [.slice A l.length c] ∧ l.length ≤ c ∧ c ≤ maxLen ∧ Rd W W.heap.size A (l.flatMap cells) ∧
      ((d = .nil ∧ l = []) ∨ ∃ es sp, d = .slice es sp ∧ es.length = l.length ∧ ∀ (i : Nat) (hi : i < l.length) (hd : i < es.length), Φ l[i] es[i]) ∧ ∀ x ∈ l, ∃ d, Φ x d := by
  rcases Deep.open_slice ht h with ⟨hcs, hx⟩ | ⟨a, len, cap, m, n, D, Pl, hcs, _, hl, hm, hz, hx, hel⟩
  · simp only [Prod.mk.injEq] at hx
    obtain ⟨rfl, rfl⟩ := hx
    exact ⟨.none, [], 0, hcs, Nat.le_refl _, by unfold maxLen; omega, Rd.nil_, .inl ⟨rfl, rfl⟩, fun x hx => by cases hx⟩
  · simp only [Prod.mk.injEq] at hx
    obtain ⟨rfl, rfl⟩ := hx
    simp only [if_true] at hz
    subst hz
    have key : ∀ i, i < len → ∃ x : α, (∀ j, j < k → W.cell? ((a.add (i * k)).add j) = (cells x)[j]?) ∧ Φ x (D i) := fun i hi => by
      obtain ⟨cs', h1, h2⟩ := hel i (by omega)
      rw [hc] at h1
      obtain ⟨_, hlen, hcell⟩ := World.cells?_some h1
      obtain ⟨x, hx, hr⟩ := helem _ _ _ _ h2
      refine ⟨x, fun j hj => ?_, hr⟩
      rw [hcell j hj, hx]
    obtain ⟨g, hg⟩ := Deep.choose_lt key
    refine ⟨some a, (List.range len).map g, m, by simpa using hcs, by simpa using hl, hm, fun hn => ?_, .inr ⟨_, _, rfl, by simp, fun i hi hd => ?_⟩, fun x hx => ?_⟩
    · rw [rows_len hk] at hn
      simp only [List.length_map, List.length_range] at hn
      have hlen : 0 < len := by
        rcases Nat.eq_zero_or_pos len with h0 | h0
        · rw [h0, Nat.zero_mul] at hn; omega
        · exact h0
      have h00 := (hg 0 hlen).1 0 hpos
      obtain ⟨u0, hu0⟩ : ∃ u, (cells (g 0))[0]? = some u := ⟨_, List.getElem?_eq_getElem (by rw [hk]; exact hpos)⟩
      have hspot : ∃ b off, a = ⟨b, off, .none⟩ := by
        obtain ⟨b, off, spot⟩ := a
        have h1 : W.cell? ⟨b, off, spot⟩ = some u0 := by
          rw [hu0] at h00
          simp only [Nat.zero_mul] at h00
          have h2 := h00
          unfold Addr.add at h2
          simpa using h2
        have : spot = .none := World.cell?_spot h1
        subst this
        exact ⟨b, off, rfl⟩
      obtain ⟨b, off, rfl⟩ := hspot
      have hcc : ∀ i, i < len → ∀ j, j < k → W.cell? ⟨b, off + i * k + j, .none⟩ = (cells (g i))[j]? := fun i hi j hj => by
        rw [← (hg i hi).1 j hj, add_off, add_off]
      refine ⟨b, off, rfl, ?_, fun j u hu => ?_⟩
      · have h2 : W.cell? ⟨b, off + 0 * k + 0, .none⟩ = some u0 := (hcc 0 hlen 0 hpos).trans hu0
        exact World.block_lt_of_cell? W _ h2
      · have hjl : j < ((List.range len).map g).length * k := by rw [← rows_len hk]; exact (List.getElem?_eq_some_iff.1 hu).1
        simp only [List.length_map, List.length_range] at hjl
        have hi : j / k < len := (Nat.div_lt_iff_lt_mul hpos).2 hjl
        have hjm : j % k < k := Nat.mod_lt _ hpos
        have e0 : j / k * k + j % k = j := by rw [Nat.mul_comm]; exact Nat.div_add_mod j k
        have h3 := hcc (j / k) hi (j % k) hjm
        have h4 := rows_at hk ((List.range len).map g) (j / k) (by simpa using hi) (j % k) hjm
        rw [e0, hu] at h4
        rw [show off + j / k * k + j % k = off + j by omega] at h3
        rw [h3, h4]
        simp
    · simp only [List.length_map, List.length_range] at hi
      simpa using (hg i hi).2
    · obtain ⟨i, hi, rfl⟩ := List.mem_map.1 hx
      exact ⟨_, (hg i (List.mem_range.1 hi)).2⟩

end
end Go.Proofs.Ytdmbgjpidlllcaa.Rows_
