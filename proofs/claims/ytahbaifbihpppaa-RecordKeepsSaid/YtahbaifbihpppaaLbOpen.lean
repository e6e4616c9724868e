/- A list of labels, or a label, as an argument, opened; and what the bounds on bulk and weight give of it. No conditions. -/
import Derived.Test.YtahbaifbihpppaaLbMem
import Derived.Test.YtahbaifbihpppaaBulk
import Derived.Deep.Slices
import Derived.ChangeMaps5
namespace Go.Proofs.Ytahbaifbihpppaa.LbOpen
open Go Go.RowKit Go.WideShapes Go.ChangeShapes Words Ope Bulk Less LbSpec LbText LbMem

def total (l : List Lab) : Nat := (l.map fun x => x.1.length + x.2.length).sum
section
variable {H : Type} {enc : TypeId × Value → H}
theorem list2 {α : Type} {l : List α} (h : l.length = 2) : ∃ a b, l = [a, b] := by
  match l, h with
  | [a, b], _ => exact ⟨a, b, rfl⟩
/-- The bounds on a label's texts. -/
def Sm (x : Lab) : Prop := x.1.length ≤ maxLen ∧ x.2.length ≤ maxLen

set_option maxRecDepth 100000 in
theorem open_lab {W : World} {n : Nat} {cs : List Value} {d : DataW H} {pl : List MemPlace} (h : DataW.trod enc Try.prog W 0 (fun _ => true) true n 46 cs = some (d, pl)) :
    ∃ x : Lab, cs = [S8 x.1, S8 x.2] ∧ x.1.length + x.2.length + 2 ≤ Rows.uptoBulk d := by
  have c9 : Try.prog.cellsOf 9 = 1 := by kernel_rfl
  have c37 : Try.prog.cellsOf 46 = 2 := by kernel_rfl
  obtain ⟨xs, m, _, hx, hl, hlen, hf⟩ := DataW.trod_struct Try.underlying46 h
  rw [c37] at hl
  obtain ⟨v0, v1, rfl⟩ := list2 hl
  obtain ⟨y0, y1, rfl⟩ := list2 (show xs.length = 2 from hlen)
  have h0 := hf 0 _ rfl
  have h1 := hf 1 _ rfl
  simp only [c9, List.drop_zero, List.drop_succ_cons, List.take_succ_cons, List.take_zero, List.getElem?_cons_zero, List.getElem?_cons_succ] at h0 h1
  obtain ⟨s0, e0, x0, _⟩ := DataW.trod_string Try.underlying9 h0
  obtain ⟨s1, e1, x1, _⟩ := DataW.trod_string Try.underlying9 h1
  have inj : ∀ {a b : Value}, [a] = [b] → a = b := fun h => by injection h
  replace e0 := inj e0
  replace e1 := inj e1
  subst e0 e1 x0 x1
  injection hx with hx _
  subst hx
  refine ⟨(s0.data.toList, s1.data.toList), ?_, ?_⟩
  · unfold S8
    simp
  · simp only [List.map_cons, List.map_nil, Rows.uptoBulk, Rows.uptoBulkAll]
    omega
/-- The datum of a list: as long as it, its bulk at least all its texts'. -/
def LabsD (d : DataW H) (l : List Lab) : Prop := (d = .nil ∧ l = []) ∨ ∃ es sp, d = .slice es sp ∧ es.length = l.length ∧ total l + 2 * l.length ≤ Rows.uptoBulkAll es
theorem bulk_labs : ∀ (ds : List (DataW H)) (l : List Lab), ds.length = l.length → (∀ (i : Nat) (hi : i < l.length) (hd : i < ds.length), (l[i]).1.length + (l[i]).2.length + 2 ≤ Rows.uptoBulk ds[i]) → total l + 2 * l.length ≤ Rows.uptoBulkAll ds
  | [], [], _, _ => by simp [total, Rows.uptoBulkAll]
  | d :: ds, x :: l, hl, h => by
    have h0 := h 0 (by simp) (by simp)
    simp only [List.getElem_cons_zero] at h0
    have h1 := bulk_labs ds l (by simpa using hl) (fun i hi hd => by
      have := h (i + 1) (by simp; omega) (by simp; omega)
      simpa using this)
    unfold total at h1 ⊢
    simp only [Rows.uptoBulkAll, List.map_cons, List.sum_cons, List.length_cons] at *
    omega

set_option maxRecDepth 100000 in
theorem open_labs {W : World} {base : Nat} {v : Value} {d : DataW H} {p : List MemPlace}
    (hval : Value.okWide Try.prog W .any base 31 v) (h : DataW.Trod enc Try.prog W 0 (fun _ => true) true 31 v d p) :
    ∃ (A : Option Addr) (l : List Lab) (c : Nat), v = .slice A l.length c ∧ Lb W A l.length c l ∧ LabsD d l := by
  obtain ⟨A, len, cap, rfl⟩ := okWide_slice Try.underlying31 hval
  obtain ⟨fuel, hf⟩ := h
  have c37 : Try.prog.cellsOf 46 = 2 := by kernel_rfl
  rcases Deep.open_slice Try.underlying31 hf with ⟨hcs, hx⟩ | ⟨a, len', cap', m, n, D, Pl, hcs, _, hl, hm, hz, hx, hel⟩
  · simp [Value.cells] at hcs
    obtain ⟨rfl, rfl, rfl⟩ := hcs
    simp only [Prod.mk.injEq] at hx
    obtain ⟨rfl, rfl⟩ := hx
    exact ⟨none, [], 0, rfl, ⟨rfl, Nat.le_refl _, by unfold maxLen; omega, Rd.nil_⟩, .inl ⟨rfl, rfl⟩⟩
  · simp [Value.cells] at hcs
    obtain ⟨rfl, rfl, rfl⟩ := hcs
    simp only [Prod.mk.injEq] at hx
    obtain ⟨rfl, rfl⟩ := hx
    simp only [if_true] at hz
    subst hz
    have key : ∀ i, i < len → ∃ x : Lab, (∀ j, j < 2 → W.cell? ((a.add (i * 2)).add j) = [S8 x.1, S8 x.2][j]?) ∧ x.1.length + x.2.length + 2 ≤ Rows.uptoBulk (D i) := fun i hi => by
      obtain ⟨cs', h1, h2⟩ := hel i (by omega)
      rw [c37] at h1
      obtain ⟨_, hlen, hcell⟩ := World.cells?_some h1
      obtain ⟨x, hx, hr⟩ := open_lab h2
      refine ⟨x, fun j hj => ?_, hr⟩
      rw [hcell j hj, hx]
    have : Inhabited Lab := ⟨([], [])⟩
    obtain ⟨g, hg⟩ := Deep.choose_lt key
    have hb := bulk_labs ((List.range len).map D) ((List.range len).map g) (by simp) (fun i hi hd => by
      simp only [List.length_map, List.length_range] at hi
      simpa using (hg i hi).2)
    refine ⟨some a, (List.range len).map g, m, by simp, ⟨rfl, by simpa using hl, hm, fun hn => ?_⟩, .inr ⟨_, _, rfl, by simp, hb⟩⟩
    rw [flat_len] at hn
    simp only [List.length_map, List.length_range] at hn
    have h00 := (hg 0 (by omega)).1 0 (by omega)
    have hspot : ∃ b off, a = ⟨b, off, none⟩ := by
      obtain ⟨b, off, spot⟩ := a
      have h1 : W.cell? ⟨b, off, spot⟩ = some (S8 (g 0).1) := by
        simp only [Nat.zero_mul] at h00
        have h2 := h00
        unfold Addr.add at h2
        simpa using h2
      have : spot = none := World.cell?_spot h1
      subst this
      exact ⟨b, off, rfl⟩
    obtain ⟨b, off, rfl⟩ := hspot
    have hc : ∀ i, i < len → ∀ j, j < 2 → W.cell? ⟨b, off + i * 2 + j, none⟩ = [S8 (g i).1, S8 (g i).2][j]? := fun i hi j hj => by
      rw [← (hg i hi).1 j hj, add_off, add_off]
    refine ⟨b, off, rfl, ?_, fun j u hu => ?_⟩
    · have h2 : W.cell? ⟨b, off + 0 * 2 + 0, none⟩ = some (S8 (g 0).1) := (hc 0 (by omega) 0 (by omega)).trans rfl
      exact World.block_lt_of_cell? W _ h2
    · have hjl : j < ((List.range len).map g).length * 2 := by rw [← flat_len]; exact (List.getElem?_eq_some_iff.1 hu).1
      simp only [List.length_map, List.length_range] at hjl
      have hd : j = (j / 2) * 2 + j % 2 := by omega
      have hi : j / 2 < len := by omega
      have hfa := flat_at (l := (List.range len).map g) (k := j / 2) (by simpa using hi)
      simp only [List.getElem_map, List.getElem_range] at hfa
      have h3 := hc (j / 2) hi (j % 2) (by omega)
      have e1 : off + j = off + j / 2 * 2 + j % 2 := by omega
      rw [e1, h3, ← hu]
      rcases Nat.mod_two_eq_zero_or_one j with h4 | h4
      · have e2 : j = j / 2 * 2 := by omega
        rw [h4, show (flat ((List.range len).map g))[j]? = (flat ((List.range len).map g))[j / 2 * 2]? by rw [← e2], hfa.1]
        rfl
      · have e2 : j = j / 2 * 2 + 1 := by omega
        rw [h4, show (flat ((List.range len).map g))[j]? = (flat ((List.range len).map g))[j / 2 * 2 + 1]? by rw [← e2], hfa.2]
        rfl
theorem labs_bulk {d : DataW H} {l : List Lab} (h : LabsD d l) : total l + 2 * l.length ≤ Rows.uptoBulk d := by
  rcases h with ⟨rfl, rfl⟩ | ⟨es, sp, rfl, _, h⟩
  · simp [total]
  · simp only [Rows.uptoBulk]
    omega
set_option maxRecDepth 100000 in
theorem labs_weigh {d : DataW H} {l : List Lab} (h : LabsD d l) (hw : (d.weights Try.prog 31).all (· ≤ reachBytes) = true) : l.length * 32 ≤ 140737488351232 := by
  rcases h with ⟨rfl, rfl⟩ | ⟨es, sp, rfl, he, _⟩
  · simp
  · rw [DataW.weights, Try.underlying31] at hw
    simp only [List.all_cons, Bool.and_eq_true, decide_eq_true_eq] at hw
    have h1 := hw.1
    simp only [reachBytes] at h1
    have hb : Try.prog.bytesOf 46 = 32 := by kernel_rfl
    rw [hb] at h1
    have : l.length * 32 ≤ (es.length + sp.length) * 32 := Nat.mul_le_mul (by omega) (Nat.le_refl _)
    omega
set_option maxRecDepth 100000 in
/-- A label by itself. -/
theorem open_label {W : World} {base : Nat} {v : Value} {d : DataW H} {p : List MemPlace}
    (hval : Value.okWide Try.prog W .any base 46 v) (h : DataW.Trod enc Try.prog W 0 (fun _ => true) true 46 v d p) :
    ∃ x : Lab, v = .agg #[S8 x.1, S8 x.2] ∧ x.1.length + x.2.length + 2 ≤ Rows.uptoBulk d := by
  obtain ⟨cs, rfl, _⟩ := okWide_struct Try.underlying46 hval
  obtain ⟨fuel, hf⟩ := h
  obtain ⟨x, hx, hb⟩ := open_lab (show DataW.trod enc Try.prog W 0 (fun _ => true) true fuel 46 cs.toList = some (d, p) from hf)
  refine ⟨x, ?_, hb⟩
  congr 1
  exact Array.ext' (by rw [hx])
end
end Go.Proofs.Ytahbaifbihpppaa.LbOpen
