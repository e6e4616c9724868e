/- A list of texts as an argument, opened; and what the bounds on bulk and weight give of it. No conditions. -/
import Derived.Test.YteaafkadjglnhaaLess
import Derived.Test.YteaafkadjglnhaaBulk
import Derived.Deep.Slices
import Derived.ChangeMaps5
namespace Go.Proofs.Yteaafkadjglnhaa.BlOpen
open Go Go.RowKit Go.WideShapes Go.ChangeShapes Words Ope Bulk Less

theorem text_of (s : ByteArray) : s = ⟨s.data.toList.toArray⟩ := by simp
theorem text_len {s : List UInt8} (h : (⟨s.toArray⟩ : ByteArray).size ≤ maxLen) : s.length ≤ maxLen := by
  rwa [show (⟨s.toArray⟩ : ByteArray).size = s.length from by show s.toArray.size = _; simp] at h
section
variable {H : Type} {enc : TypeId × Value → H}
set_option maxRecDepth 100000 in
theorem open_text {W : World} {n : Nat} {cs : List Value} {d : DataW H} {pl : List MemPlace} (h : DataW.trod enc Try.prog W 0 (fun _ => true) true n 9 cs = some (d, pl)) :
    ∃ x : List UInt8, cs = [S8 x] ∧ x.length + 1 ≤ Rows.uptoBulk d ∧ x.length ≤ maxLen := by
  obtain ⟨s, rfl, hx, hs⟩ := DataW.trod_string Try.underlying9 h
  injection hx with hx _
  subst hx
  exact ⟨s.data.toList, by simp [S8], by simp [Rows.uptoBulk], hs⟩
def weightOf (l : List (List UInt8)) : Nat := (l.map fun x => x.length + 1).sum
/-- The datum of a list: as long as it, its bulk at least all its texts'. -/
def StrsD (d : DataW H) (l : List (List UInt8)) : Prop := (d = .nil ∧ l = []) ∨ ∃ es sp, d = .slice es sp ∧ es.length = l.length ∧ weightOf l ≤ Rows.uptoBulkAll es
theorem bulk_strs : ∀ (ds : List (DataW H)) (l : List (List UInt8)), ds.length = l.length → (∀ (i : Nat) (hi : i < l.length) (hd : i < ds.length), (l[i]).length + 1 ≤ Rows.uptoBulk ds[i]) → weightOf l ≤ Rows.uptoBulkAll ds
  | [], [], _, _ => by simp [weightOf, Rows.uptoBulkAll]
  | d :: ds, x :: l, hl, h => by
    have h0 := h 0 (by simp) (by simp)
    simp only [List.getElem_cons_zero] at h0
    have h1 := bulk_strs ds l (by simpa using hl) (fun i hi hd => by
      have := h (i + 1) (by simp; omega) (by simp; omega)
      simpa using this)
    unfold weightOf at h1 ⊢
    simp only [Rows.uptoBulkAll, List.map_cons, List.sum_cons, List.length_cons] at *
    omega
theorem weight_len : ∀ l : List (List UInt8), l.length ≤ weightOf l
  | [] => Nat.zero_le _
  | x :: l => by
    have := weight_len l
    unfold weightOf at *
    simp only [List.map_cons, List.sum_cons, List.length_cons] at *
    omega

set_option maxRecDepth 100000 in
theorem open_strs {W : World} {base : Nat} {v : Value} {d : DataW H} {p : List MemPlace}
    (hval : Value.okWide Try.prog W .any base 22 v) (h : DataW.Trod enc Try.prog W 0 (fun _ => true) true 22 v d p) :
    ∃ (A : Option Addr) (l : List (List UInt8)) (c : Nat), v = .slice A l.length c ∧ l.length ≤ c ∧ c ≤ maxLen ∧ Rd W W.heap.size A (l.map S8) ∧ (∀ s ∈ l, s.length ≤ maxLen) ∧ StrsD d l := by
  obtain ⟨A, len, cap, rfl⟩ := okWide_slice Try.underlying22 hval
  obtain ⟨fuel, hf⟩ := h
  have c1 : Try.prog.cellsOf 9 = 1 := by kernel_rfl
  rcases Deep.open_slice Try.underlying22 hf with ⟨hcs, hx⟩ | ⟨a, len', cap', m, n, D, Pl, hcs, _, hl, hm, hz, hx, hel⟩
  · simp [Value.cells] at hcs
    obtain ⟨rfl, rfl, rfl⟩ := hcs
    simp only [Prod.mk.injEq] at hx
    obtain ⟨rfl, rfl⟩ := hx
    exact ⟨none, [], 0, rfl, Nat.le_refl _, by unfold maxLen; omega, Rd.nil_, (fun s hs => by cases hs), .inl ⟨rfl, rfl⟩⟩
  · simp [Value.cells] at hcs
    obtain ⟨rfl, rfl, rfl⟩ := hcs
    simp only [Prod.mk.injEq] at hx
    obtain ⟨rfl, rfl⟩ := hx
    simp only [if_true] at hz
    subst hz
    have key : ∀ i, i < len → ∃ x : List UInt8, W.cell? (a.add i) = some (S8 x) ∧ x.length + 1 ≤ Rows.uptoBulk (D i) ∧ x.length ≤ maxLen := fun i hi => by
      obtain ⟨cs', h1, h2⟩ := hel i (by omega)
      rw [c1] at h1
      obtain ⟨_, hlen, hcell⟩ := World.cells?_some h1
      obtain ⟨x, hx, hr, hs⟩ := open_text h2
      refine ⟨x, ?_, hr, hs⟩
      have h3 := hcell 0 (by omega)
      have e0 : ∀ q : Addr, q.add 0 = q := fun q => by unfold Addr.add; split <;> simp_all
      rw [hx, Nat.mul_one, e0] at h3
      exact h3
    have : Inhabited (List UInt8) := ⟨[]⟩
    obtain ⟨g, hg⟩ := Deep.choose_lt key
    have hb := bulk_strs ((List.range len).map D) ((List.range len).map g) (by simp) (fun i hi hd => by
      simp only [List.length_map, List.length_range] at hi
      simpa using (hg i hi).2.1)
    refine ⟨some a, (List.range len).map g, m, by simp, by simpa using hl, hm, fun hn => ?_, fun s hs => ?_, .inr ⟨_, _, rfl, by simp, hb⟩⟩
    · simp only [List.length_map, List.length_range] at hn
      have h00 := (hg 0 hn).1
      have hspot : ∃ b off, a = ⟨b, off, none⟩ := by
        obtain ⟨b, off, spot⟩ := a
        have h1 : W.cell? ⟨b, off, spot⟩ = some (S8 (g 0)) := by
          have h2 := h00
          unfold Addr.add at h2
          simpa using h2
        have : spot = none := World.cell?_spot h1
        subst this
        exact ⟨b, off, rfl⟩
      obtain ⟨b, off, rfl⟩ := hspot
      have hc : ∀ i, i < len → W.cell? ⟨b, off + i, none⟩ = some (S8 (g i)) := fun i hi => by
        rw [← (hg i hi).1, add_off]
      refine ⟨b, off, rfl, World.block_lt_of_cell? W _ (hc 0 hn), fun j u hu => ?_⟩
      have hjl : j < len := by simpa using (List.getElem?_eq_some_iff.1 hu).1
      rw [hc j hjl]
      simpa [hjl] using hu
    · obtain ⟨i, hi, rfl⟩ := List.mem_map.1 hs
      exact (hg i (List.mem_range.1 hi)).2.2
theorem strs_bulk {d : DataW H} {l : List (List UInt8)} (h : StrsD d l) : weightOf l ≤ Rows.uptoBulk d := by
  rcases h with ⟨rfl, rfl⟩ | ⟨es, sp, rfl, _, hb⟩
  · simp [weightOf]
  · simp only [Rows.uptoBulk]
    omega
theorem strs_weigh {d : DataW H} {l : List (List UInt8)} (h : StrsD d l) (hw : (d.weights Try.prog 22).all (· ≤ reachBytes) = true) : l.length * 16 ≤ 140737488355327 := by
  rcases h with ⟨rfl, rfl⟩ | ⟨es, sp, rfl, he, _⟩
  · simp
  · rw [DataW.weights, Try.underlying22] at hw
    simp only [List.all_cons, Bool.and_eq_true, decide_eq_true_eq] at hw
    have h1 := hw.1
    simp only [reachBytes] at h1
    have hb : Try.prog.bytesOf 9 = 16 := by kernel_rfl
    rw [hb] at h1
    have : l.length * 16 ≤ (es.length + sp.length) * 16 := Nat.mul_le_mul (by omega) (Nat.le_refl _)
    omega
end
end Go.Proofs.Yteaafkadjglnhaa.BlOpen
