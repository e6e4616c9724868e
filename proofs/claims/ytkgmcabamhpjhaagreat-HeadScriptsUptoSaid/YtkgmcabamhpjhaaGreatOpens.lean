/- What the bound on the arguments' bulk gives: lengths. No conditions. · A list of labels, or a label, as an argument, opened; and what the bounds on bulk and weight give of it. No conditions. · A slice of structs as an argument, opened (for any struct of a set number of cells); records and lists of records; what the bounds on bulk and weight give of them. No conditions. · The contracts of the document's own Need and Same: the bits that a number needs; two lists of numbers are the same; nothing changes. Conditions: 64 bits; lengths at most capacities, these at most the model's greatest length. -/
import Derived.Test.YtkgmcabamhpjhaaGreatRows
import Derived.Test.YtkgmcabamhpjhaaGreatBase
import Derived.Test.YtkgmcabamhpjhaaGreatLbSpecs
import Derived.Deep.Slices
import Derived.ChangeMaps5
import Derived.Test.YtkgmcabamhpjhaaGreatRcSpecs
import Derived.WalkKit
import Derived.LoopTactic
import Derived.Lib.Hide
import Derived.Outline
import Derived.Deep.QuietTactic
import Derived.BigQuiet
namespace Go.Proofs.YtkgmcabamhpjhaaGreat.Bulk
open Go Go.ChangeShapes Ope

theorem one_le {H : Type} (d : DataW H) : 1 ≤ Rows.uptoBulk d := by
  cases d with
  | lit l => cases l <;> simp [Rows.uptoBulk]
  | nil => simp [Rows.uptoBulk]
  | ptr d => simp [Rows.uptoBulk]
  | slice elems spare => simp [Rows.uptoBulk]
  | agg parts => simp [Rows.uptoBulk]
  | iface t d => simp [Rows.uptoBulk]
  | map entries => simp [Rows.uptoBulk]
  | held h => simp [Rows.uptoBulk]
theorem length_le {H : Type} (l : List (DataW H)) : l.length ≤ Rows.uptoBulkAll l := by
  induction l with
  | nil => simp
  | cons x r ih => have := one_le x; simp only [Rows.uptoBulkAll, List.length_cons]; omega
/-- A slice of integers is no longer than its bulk. -/
theorem bulk_len {H : Type} {k : IntKind} {d : DataW H} {zs : List Int} (h : Lits k d zs) : zs.length ≤ Rows.uptoBulk d := by
  rcases h with ⟨rfl, rfl⟩ | ⟨sp, rfl⟩
  · simp
  · have := length_le (H := H) (lits k zs)
    simp only [lits, List.length_map] at this
    simp only [Rows.uptoBulk, lits]
    omega

/-- What the model's own bound on each argument's bytes gives. -/
theorem weigh_cons {H : Type} {P : Program} {t : TypeId} {ts : List TypeId} {d : DataW H} {ds : List (DataW H)} (h : (DataW.weightsEach P (t :: ts) (d :: ds)).all (· ≤ reachBytes) = true) :
    (d.weights P t).all (· ≤ reachBytes) = true ∧ (DataW.weightsEach P ts ds).all (· ≤ reachBytes) = true := by
  rwa [DataW.weightsEach, List.all_append, Bool.and_eq_true] at h
theorem weigh_len {H : Type} {P : Program} {k : IntKind} {d : DataW H} {zs : List Int} {t e : TypeId} (ht : P.underlying t = some (.slice e)) (hb : 0 < P.bytesOf e) (h : Lits k d zs) (hw : (d.weights P t).all (· ≤ reachBytes) = true) : zs.length ≤ 140737488355327 := by
  rcases h with ⟨rfl, rfl⟩ | ⟨sp, rfl⟩
  · simp
  · rw [DataW.weights, ht] at hw
    simp only [List.all_cons, Bool.and_eq_true, decide_eq_true_eq] at hw
    have h1 := hw.1
    simp only [lits, List.length_map, reachBytes] at h1
    have : zs.length * 1 ≤ (zs.length + sp.length) * P.bytesOf e := Nat.mul_le_mul (by omega) hb
    omega
end Go.Proofs.YtkgmcabamhpjhaaGreat.Bulk

namespace Go.Proofs.YtkgmcabamhpjhaaGreat.LbOpen
open Go Go.RowKit Go.WideShapes Go.ChangeShapes Words Ope Bulk Less LbSpec LbText LbMem

def total (l : List Lab) : Nat := (l.map fun x => x.1.length + x.2.length).sum
section
variable {H : Type} {enc : TypeId × Value → H}
theorem list2 {α : Type} {l : List α} (h : l.length = 2) : ∃ a b, l = [a, b] := by
  match l, h with
  | [a, b], _ => exact ⟨a, b, rfl⟩
/-- The bounds on a label's texts. -/
def Sm (x : Lab) : Prop := x.1.length ≤ maxLen ∧ x.2.length ≤ maxLen

set_option maxRecDepth 100000 in
theorem open_lab {W : World} {n : Nat} {cs : List Value} {d : DataW H} {pl : List MemPlace} (h : DataW.trod enc Tryz.prog W 0 (fun _ => true) true n 70 cs = some (d, pl)) :
    ∃ x : Lab, cs = [S8 x.1, S8 x.2] ∧ x.1.length + x.2.length + 2 ≤ Rows.uptoBulk d := by
  have c9 : Tryz.prog.cellsOf 9 = 1 := by kernel_rfl
  have c37 : Tryz.prog.cellsOf 70 = 2 := by kernel_rfl
  obtain ⟨xs, m, _, hx, hl, hlen, hf⟩ := DataW.trod_struct Tryz.underlying70 h
  rw [c37] at hl
  obtain ⟨v0, v1, rfl⟩ := list2 hl
  obtain ⟨y0, y1, rfl⟩ := list2 (show xs.length = 2 from hlen)
  have h0 := hf 0 _ rfl
  have h1 := hf 1 _ rfl
  simp only [List.getElem?_cons_zero, List.getElem?_cons_succ] at h0 h1
  obtain ⟨s0, e0, x0, _⟩ := DataW.trod_string Tryz.underlying9 h0
  obtain ⟨s1, e1, x1, _⟩ := DataW.trod_string Tryz.underlying9 h1
  have inj : ∀ {a b : Value}, [a] = [b] → a = b := fun h => by injection h
  replace e0 := inj e0
  replace e1 := inj e1
  subst e0 e1 x0 x1
  injection hx with hx _
  subst hx
  refine ⟨(s0.data.toList, s1.data.toList), ?_, ?_⟩
  · unfold S8
    simp
  · simp only [List.map_cons, List.map_nil, Rows.uptoBulk, Rows.uptoBulkAll]
    omega
/-- The datum of a list: as long as it, its bulk at least all its texts'. -/
def LabsD (d : DataW H) (l : List Lab) : Prop := (d = .nil ∧ l = []) ∨ ∃ es sp, d = .slice es sp ∧ es.length = l.length ∧ total l + 2 * l.length ≤ Rows.uptoBulkAll es
theorem bulk_labs : ∀ (ds : List (DataW H)) (l : List Lab), ds.length = l.length → (∀ (i : Nat) (hi : i < l.length) (hd : i < ds.length), (l[i]).1.length + (l[i]).2.length + 2 ≤ Rows.uptoBulk ds[i]) → total l + 2 * l.length ≤ Rows.uptoBulkAll ds
  | [], [], _, _ => by simp [total, Rows.uptoBulkAll]
  | d :: ds, x :: l, hl, h => by
    have h0 := h 0 (by simp) (by simp)
    simp only [List.getElem_cons_zero] at h0
    have h1 := bulk_labs ds l (by simpa using hl) (fun i hi hd => by
      have := h (i + 1) (by simp; omega) (by simp; omega)
      simpa using this)
    unfold total at h1 ⊢
    simp only [Rows.uptoBulkAll, List.map_cons, List.sum_cons, List.length_cons] at *
    omega

set_option maxRecDepth 100000 in
theorem open_labs {W : World} {base : Nat} {v : Value} {d : DataW H} {p : List MemPlace}
    (hval : Value.okWide Tryz.prog W .any base 45 v) (h : DataW.Trod enc Tryz.prog W 0 (fun _ => true) true 45 v d p) :
    ∃ (A : Option Addr) (l : List Lab) (c : Nat), v = .slice A l.length c ∧ Lb W A l.length c l ∧ LabsD d l := by
  obtain ⟨A, len, cap, rfl⟩ := okWide_slice Tryz.underlying45 hval
  obtain ⟨fuel, hf⟩ := h
  have c37 : Tryz.prog.cellsOf 70 = 2 := by kernel_rfl
  rcases Deep.open_slice Tryz.underlying45 hf with ⟨hcs, hx⟩ | ⟨a, len', cap', m, n, D, Pl, hcs, _, hl, hm, hz, hx, hel⟩
  · simp [Value.cells] at hcs
    obtain ⟨rfl, rfl, rfl⟩ := hcs
    simp only [Prod.mk.injEq] at hx
    obtain ⟨rfl, rfl⟩ := hx
    exact ⟨none, [], 0, rfl, ⟨rfl, Nat.le_refl _, by unfold maxLen; omega, Rd.nil_⟩, .inl ⟨rfl, rfl⟩⟩
  · simp [Value.cells] at hcs
    obtain ⟨rfl, rfl, rfl⟩ := hcs
    simp only [Prod.mk.injEq] at hx
    obtain ⟨rfl, rfl⟩ := hx
    simp only [if_true] at hz
    subst hz
    have key : ∀ i, i < len → ∃ x : Lab, (∀ j, j < 2 → W.cell? ((a.add (i * 2)).add j) = [S8 x.1, S8 x.2][j]?) ∧ x.1.length + x.2.length + 2 ≤ Rows.uptoBulk (D i) := fun i hi => by
      obtain ⟨cs', h1, h2⟩ := hel i (by omega)
      rw [c37] at h1
      obtain ⟨_, hlen, hcell⟩ := World.cells?_some h1
      obtain ⟨x, hx, hr⟩ := open_lab h2
      refine ⟨x, fun j hj => ?_, hr⟩
      rw [hcell j hj, hx]
    have : Inhabited Lab := ⟨([], [])⟩
    obtain ⟨g, hg⟩ := Deep.choose_lt key
    have hb := bulk_labs ((List.range len).map D) ((List.range len).map g) (by simp) (fun i hi hd => by
      simp only [List.length_map, List.length_range] at hi
      simpa using (hg i hi).2)
    refine ⟨some a, (List.range len).map g, m, by simp, ⟨rfl, by simpa using hl, hm, fun hn => ?_⟩, .inr ⟨_, _, rfl, by simp, hb⟩⟩
    rw [flat_len] at hn
    simp only [List.length_map, List.length_range] at hn
    have h00 := (hg 0 (by omega)).1 0 (by omega)
    have hspot : ∃ b off, a = ⟨b, off, none⟩ := by
      obtain ⟨b, off, spot⟩ := a
      have h1 : W.cell? ⟨b, off, spot⟩ = some (S8 (g 0).1) := by
        simp only [Nat.zero_mul] at h00
        have h2 := h00
        unfold Addr.add at h2
        simpa using h2
      have : spot = none := World.cell?_spot h1
      subst this
      exact ⟨b, off, rfl⟩
    obtain ⟨b, off, rfl⟩ := hspot
    have hc : ∀ i, i < len → ∀ j, j < 2 → W.cell? ⟨b, off + i * 2 + j, none⟩ = [S8 (g i).1, S8 (g i).2][j]? := fun i hi j hj => by
      rw [← (hg i hi).1 j hj, add_off, add_off]
    refine ⟨b, off, rfl, ?_, fun j u hu => ?_⟩
    · have h2 : W.cell? ⟨b, off + 0 * 2 + 0, none⟩ = some (S8 (g 0).1) := (hc 0 (by omega) 0 (by omega)).trans rfl
      exact World.block_lt_of_cell? W _ h2
    · have hjl : j < ((List.range len).map g).length * 2 := by rw [← flat_len]; exact (List.getElem?_eq_some_iff.1 hu).1
      simp only [List.length_map, List.length_range] at hjl
      have hd : j = (j / 2) * 2 + j % 2 := by omega
      have hi : j / 2 < len := by omega
      have hfa := flat_at (l := (List.range len).map g) (k := j / 2) (by simpa using hi)
      simp only [List.getElem_map, List.getElem_range] at hfa
      have h3 := hc (j / 2) hi (j % 2) (by omega)
      have e1 : off + j = off + j / 2 * 2 + j % 2 := by omega
      rw [e1, h3, ← hu]
      rcases Nat.mod_two_eq_zero_or_one j with h4 | h4
      · have e2 : j = j / 2 * 2 := by omega
        rw [h4, show (flat ((List.range len).map g))[j]? = (flat ((List.range len).map g))[j / 2 * 2]? by rw [← e2], hfa.1]
        rfl
      · have e2 : j = j / 2 * 2 + 1 := by omega
        rw [h4, show (flat ((List.range len).map g))[j]? = (flat ((List.range len).map g))[j / 2 * 2 + 1]? by rw [← e2], hfa.2]
        rfl
theorem labs_bulk {d : DataW H} {l : List Lab} (h : LabsD d l) : total l + 2 * l.length ≤ Rows.uptoBulk d := by
  rcases h with ⟨rfl, rfl⟩ | ⟨es, sp, rfl, _, h⟩
  · simp [total]
  · simp only [Rows.uptoBulk]
    omega
set_option maxRecDepth 100000 in
theorem labs_weigh {d : DataW H} {l : List Lab} (h : LabsD d l) (hw : (d.weights Tryz.prog 45).all (· ≤ reachBytes) = true) : l.length * 32 ≤ 140737488351232 := by
  rcases h with ⟨rfl, rfl⟩ | ⟨es, sp, rfl, he, _⟩
  · simp
  · rw [DataW.weights, Tryz.underlying45] at hw
    simp only [List.all_cons, Bool.and_eq_true, decide_eq_true_eq] at hw
    have h1 := hw.1
    simp only [reachBytes] at h1
    have hb : Tryz.prog.bytesOf 70 = 32 := by kernel_rfl
    rw [hb] at h1
    have : l.length * 32 ≤ (es.length + sp.length) * 32 := Nat.mul_le_mul (by omega) (Nat.le_refl _)
    omega
set_option maxRecDepth 100000 in
/-- A label by itself. -/
theorem open_label {W : World} {base : Nat} {v : Value} {d : DataW H} {p : List MemPlace}
    (hval : Value.okWide Tryz.prog W .any base 70 v) (h : DataW.Trod enc Tryz.prog W 0 (fun _ => true) true 70 v d p) :
    ∃ x : Lab, v = .agg #[S8 x.1, S8 x.2] ∧ x.1.length + x.2.length + 2 ≤ Rows.uptoBulk d := by
  obtain ⟨cs, rfl, _⟩ := okWide_struct Tryz.underlying70 hval
  obtain ⟨fuel, hf⟩ := h
  obtain ⟨x, hx, hb⟩ := open_lab (show DataW.trod enc Tryz.prog W 0 (fun _ => true) true fuel 70 cs.toList = some (d, p) from hf)
  refine ⟨x, ?_, hb⟩
  congr 1
  exact Array.ext' (by rw [hx])
end
end Go.Proofs.YtkgmcabamhpjhaaGreat.LbOpen

namespace Go.Proofs.YtkgmcabamhpjhaaGreat.RcOpen
open Go Go.RowKit Go.WideShapes Go.ChangeShapes Words Ope Bulk Less LbSpec LbText LbMem LbOpen RcSpec RcAll RcMem

section
variable {α : Type} {cells : α → List Value} {k : Nat}
theorem rows_len (hk : ∀ x, (cells x).length = k) : ∀ l : List α, (l.flatMap cells).length = l.length * k
  | [] => by simp
  | x :: l => by rw [List.flatMap_cons, List.length_append, hk, rows_len hk l, List.length_cons, Nat.succ_mul]; omega
theorem rows_at (hk : ∀ x, (cells x).length = k) : ∀ (l : List α) (i : Nat) (hi : i < l.length) (j : Nat), j < k → (l.flatMap cells)[i * k + j]? = (cells l[i])[j]?
  | x :: l, 0, _, j, hj => by
    rw [List.flatMap_cons, Nat.zero_mul, Nat.zero_add, List.getElem?_append_left (by rw [hk]; exact hj)]
    rfl
  | x :: l, i + 1, hi, j, hj => by
    rw [List.flatMap_cons, List.getElem?_append_right (by rw [hk, Nat.succ_mul]; omega), hk, show (i + 1) * k + j - k = i * k + j by rw [Nat.succ_mul]; omega, rows_at hk l i (by simpa using hi) j hj]
    rfl
end
section
variable {H : Type} {enc : TypeId × Value → H}
set_option maxRecDepth 100000 in
theorem open_rows {α : Type} [Inhabited α] {cells : α → List Value} {k : Nat} {W : World} {t e : TypeId} {fuel : Nat} {cs : List Value} {d : DataW H} {p : List MemPlace} {Φ : α → DataW H → Prop}
    (hk : ∀ x, (cells x).length = k) (hpos : 0 < k) (ht : Tryz.prog.underlying t = some (.slice e)) (hc : Tryz.prog.cellsOf e = k)
    (helem : ∀ n cs d pl, DataW.trod enc Tryz.prog W 0 (fun _ => true) true n e cs = some (d, pl) → ∃ x : α, cs = cells x ∧ Φ x d)
    (h : DataW.trod enc Tryz.prog W 0 (fun _ => true) true fuel t cs = some (d, p)) :
    ∃ (A : Option Addr) (l : List α) (c : Nat), cs = [.slice A l.length c] ∧ l.length ≤ c ∧ c ≤ maxLen ∧ Rd W W.heap.size A (l.flatMap cells) ∧
      ((d = .nil ∧ l = []) ∨ ∃ es sp, d = .slice es sp ∧ es.length = l.length ∧ ∀ (i : Nat) (hi : i < l.length) (hd : i < es.length), Φ l[i] es[i]) ∧ ∀ x ∈ l, ∃ d, Φ x d := by
  rcases Deep.open_slice ht h with ⟨hcs, hx⟩ | ⟨a, len, cap, m, n, D, Pl, hcs, _, hl, hm, hz, hx, hel⟩
  · simp only [Prod.mk.injEq] at hx
    obtain ⟨rfl, rfl⟩ := hx
    exact ⟨.none, [], 0, hcs, Nat.le_refl _, by unfold maxLen; omega, Rd.nil_, .inl ⟨rfl, rfl⟩, fun x hx => by cases hx⟩
  · simp only [Prod.mk.injEq] at hx
    obtain ⟨rfl, rfl⟩ := hx
    simp only [if_true] at hz
    subst hz
    have key : ∀ i, i < len → ∃ x : α, (∀ j, j < k → W.cell? ((a.add (i * k)).add j) = (cells x)[j]?) ∧ Φ x (D i) := fun i hi => by
      obtain ⟨cs', h1, h2⟩ := hel i (by omega)
      rw [hc] at h1
      obtain ⟨_, hlen, hcell⟩ := World.cells?_some h1
      obtain ⟨x, hx, hr⟩ := helem _ _ _ _ h2
      refine ⟨x, fun j hj => ?_, hr⟩
      rw [hcell j hj, hx]
    obtain ⟨g, hg⟩ := Deep.choose_lt key
    refine ⟨some a, (List.range len).map g, m, by simpa using hcs, by simpa using hl, hm, fun hn => ?_, .inr ⟨_, _, rfl, by simp, fun i hi hd => ?_⟩, fun x hx => ?_⟩
    · rw [rows_len hk] at hn
      simp only [List.length_map, List.length_range] at hn
      have hlen : 0 < len := by
        rcases Nat.eq_zero_or_pos len with h0 | h0
        · rw [h0, Nat.zero_mul] at hn; omega
        · exact h0
      have h00 := (hg 0 hlen).1 0 hpos
      obtain ⟨u0, hu0⟩ : ∃ u, (cells (g 0))[0]? = some u := ⟨_, List.getElem?_eq_getElem (by rw [hk]; exact hpos)⟩
      have hspot : ∃ b off, a = ⟨b, off, .none⟩ := by
        obtain ⟨b, off, spot⟩ := a
        have h1 : W.cell? ⟨b, off, spot⟩ = some u0 := by
          rw [hu0] at h00
          simp only [Nat.zero_mul] at h00
          have h2 := h00
          unfold Addr.add at h2
          simpa using h2
        have : spot = .none := World.cell?_spot h1
        subst this
        exact ⟨b, off, rfl⟩
      obtain ⟨b, off, rfl⟩ := hspot
      have hcc : ∀ i, i < len → ∀ j, j < k → W.cell? ⟨b, off + i * k + j, .none⟩ = (cells (g i))[j]? := fun i hi j hj => by
        rw [← (hg i hi).1 j hj, add_off, add_off]
      refine ⟨b, off, rfl, ?_, fun j u hu => ?_⟩
      · have h2 : W.cell? ⟨b, off + 0 * k + 0, .none⟩ = some u0 := (hcc 0 hlen 0 hpos).trans hu0
        exact World.block_lt_of_cell? W _ h2
      · have hjl : j < ((List.range len).map g).length * k := by rw [← rows_len hk]; exact (List.getElem?_eq_some_iff.1 hu).1
        simp only [List.length_map, List.length_range] at hjl
        have hi : j / k < len := (Nat.div_lt_iff_lt_mul hpos).2 hjl
        have hjm : j % k < k := Nat.mod_lt _ hpos
        have e0 : j / k * k + j % k = j := by rw [Nat.mul_comm]; exact Nat.div_add_mod j k
        have h3 := hcc (j / k) hi (j % k) hjm
        have h4 := rows_at hk ((List.range len).map g) (j / k) (by simpa using hi) (j % k) hjm
        rw [e0, hu] at h4
        rw [show off + j / k * k + j % k = off + j by omega] at h3
        rw [h3, h4]
        simp
    · simp only [List.length_map, List.length_range] at hi
      simpa using (hg i hi).2
    · obtain ⟨i, hi, rfl⟩ := List.mem_map.1 hx
      exact ⟨_, (hg i (List.mem_range.1 hi)).2⟩

/-! ### Records -/
theorem list4 {α : Type} {l : List α} (h : l.length = 4) : ∃ a b c d, l = [a, b, c, d] := by
  match l, h with
  | [a, b, c, d], _ => exact ⟨a, b, c, d, rfl⟩
def sizeR (r : Rec) : Nat := total r.labels + 2 * r.labels.length + r.line.length + 1
set_option maxRecDepth 100000 in
theorem open_rec {W : World} {n : Nat} {cs : List Value} {d : DataW H} {pl : List MemPlace} (h : DataW.trod enc Tryz.prog W 0 (fun _ => true) true n 47 cs = some (d, pl)) :
    ∃ m : RM, cs = rcells m ∧ Okm W m ∧ m.1.line.length ≤ maxLen ∧ sizeR m.1 ≤ Rows.uptoBulk d := by
  have ci : Tryz.prog.cellsOf 2 = 1 := by kernel_rfl
  have cu : Tryz.prog.cellsOf 44 = 1 := by kernel_rfl
  have cl : Tryz.prog.cellsOf 45 = 1 := by kernel_rfl
  have c9 : Tryz.prog.cellsOf 9 = 1 := by kernel_rfl
  have c37 : Tryz.prog.cellsOf 47 = 4 := by kernel_rfl
  obtain ⟨xs, m, _, hx, hl, hlen, hf⟩ := DataW.trod_struct Tryz.underlying47 h
  rw [c37] at hl
  obtain ⟨v0, v1, v2, v3, rfl⟩ := list4 hl
  obtain ⟨y0, y1, y2, y3, rfl⟩ := list4 (show xs.length = 4 from hlen)
  have h0 := hf 0 _ rfl
  have h1 := hf 1 _ rfl
  have h2 := hf 2 _ rfl
  have h3 := hf 3 _ rfl
  simp only [List.getElem?_cons_zero, List.getElem?_cons_succ] at h0 h1 h2 h3
  obtain ⟨t, e0, x0, w0⟩ := DataW.trod_int Tryz.underlying2 h0
  obtain ⟨s, e1, x1, w1⟩ := DataW.trod_int Tryz.underlying44 h1
  obtain ⟨d2, p2⟩ := y2
  obtain ⟨A, l, c, e2, hl1, hl2, hrd, hd, _⟩ := open_rows (cells := fun x : Lab => [S8 x.1, S8 x.2]) (k := 2) (Φ := fun x d => x.1.length + x.2.length + 2 ≤ Rows.uptoBulk d) (fun _ => rfl) (by omega) Tryz.underlying45 (by kernel_rfl) (fun n cs d pl h => open_lab h) h2
  obtain ⟨ln, e3, x3, hln⟩ := DataW.trod_string Tryz.underlying9 h3
  have inj : ∀ {a b : Value}, [a] = [b] → a = b := fun h => by injection h
  replace e0 := inj e0
  replace e1 := inj e1
  replace e2 := inj e2
  replace e3 := inj e3
  subst e0 e1 e2 e3 x0 x1 x3
  injection hx with hx _
  subst hx
  have ht : Time64 t := by
    have a1 : IntKind.i64.min = -9223372036854775808 := by decide
    have a2 : IntKind.i64.max = 9223372036854775807 := by decide
    simp only [Lit.wf, Bool.and_eq_true, decide_eq_true_eq] at w0
    rw [a1, a2] at w0
    exact w0
  have hs : 0 ≤ s ∧ s < 18446744073709551616 := by
    have a1 : IntKind.u64.min = 0 := by decide
    have a2 : IntKind.u64.max = 18446744073709551615 := by decide
    simp only [Lit.wf, Bool.and_eq_true, decide_eq_true_eq] at w1
    rw [a1, a2] at w1
    omega
  have hb : total l + 2 * l.length ≤ Rows.uptoBulk d2 := by
    rcases hd with ⟨rfl, rfl⟩ | ⟨es, sp, rfl, he, hd⟩
    · simp [total]
    · have := bulk_labs es l he hd
      simp only [Rows.uptoBulk]
      omega
  refine ⟨(⟨t, s.toNat, l, ln.data.toList⟩, A, l.length, c), ?_, ⟨⟨rfl, hl1, hl2, ?_⟩, ht, show s.toNat < 18446744073709551616 by omega⟩, ?_, ?_⟩
  · unfold rcells slV S8
    rw [show ((s.toNat : Nat) : Int) = s from Int.toNat_of_nonneg hs.1]
  · exact hrd
  · exact hln
  · show total l + 2 * l.length + ln.data.toList.length + 1 ≤ _
    simp only [List.map_cons, List.map_nil, Rows.uptoBulk, Rows.uptoBulkAll]
    omega
/-- The bulk of records. -/
def totalR (l : List RM) : Nat := (l.map fun m => sizeR m.1).sum
theorem bulk_recs : ∀ (ds : List (DataW H)) (l : List RM), ds.length = l.length → (∀ (i : Nat) (hi : i < l.length) (hd : i < ds.length), sizeR (l[i]).1 ≤ Rows.uptoBulk ds[i]) → totalR l ≤ Rows.uptoBulkAll ds
  | [], [], _, _ => by simp [totalR, Rows.uptoBulkAll]
  | d :: ds, x :: l, hl, h => by
    have h0 := h 0 (by simp) (by simp)
    simp only [List.getElem_cons_zero] at h0
    have h1 := bulk_recs ds l (by simpa using hl) (fun i hi hd => by
      have := h (i + 1) (by simp; omega) (by simp; omega)
      simpa using this)
    unfold totalR at h1 ⊢
    simp only [Rows.uptoBulkAll, List.map_cons, List.sum_cons] at *
    omega
def RecsD (d : DataW H) (l : List RM) : Prop := (d = .nil ∧ l = []) ∨ ∃ es sp, d = .slice es sp ∧ es.length = l.length ∧ totalR l ≤ Rows.uptoBulkAll es
theorem recs_bulk {d : DataW H} {l : List RM} (h : RecsD d l) : totalR l ≤ Rows.uptoBulk d := by
  rcases h with ⟨rfl, rfl⟩ | ⟨es, sp, rfl, _, h⟩
  · simp [totalR]
  · simp only [Rows.uptoBulk]
    omega
set_option maxRecDepth 100000 in
theorem recs_weigh {d : DataW H} {l : List RM} (h : RecsD d l) (hw : (d.weights Tryz.prog 28).all (· ≤ reachBytes) = true) : l.length * 56 ≤ 140737488351232 := by
  rcases h with ⟨rfl, rfl⟩ | ⟨es, sp, rfl, he, _⟩
  · simp
  · rw [DataW.weights, Tryz.underlying28] at hw
    simp only [List.all_cons, Bool.and_eq_true, decide_eq_true_eq] at hw
    have h1 := hw.1
    simp only [reachBytes] at h1
    have hb : Tryz.prog.bytesOf 47 = 56 := by kernel_rfl
    rw [hb] at h1
    have : l.length * 56 ≤ (es.length + sp.length) * 56 := Nat.mul_le_mul (by omega) (Nat.le_refl _)
    omega
instance : Inhabited RM := ⟨(⟨0, 0, [], []⟩, .none, 0, 0)⟩
set_option maxRecDepth 100000 in
/-- A list of records as an argument. -/
theorem open_recs {W : World} {base : Nat} {v : Value} {d : DataW H} {p : List MemPlace}
    (hval : Value.okWide Tryz.prog W .any base 28 v) (h : DataW.Trod enc Tryz.prog W 0 (fun _ => true) true 28 v d p) :
    ∃ (A : Option Addr) (ms : List RM) (c : Nat), v = .slice A ms.length c ∧ Rl W A ms.length c ms ∧ RecsD d ms := by
  obtain ⟨A0, len, cap, rfl⟩ := okWide_slice Tryz.underlying28 hval
  obtain ⟨fuel, hf⟩ := h
  obtain ⟨A, ms, c, hcs, h1, h2, h3, h4, h5⟩ := open_rows (cells := rcells) (k := 4) (Φ := fun m d => Okm W m ∧ sizeR m.1 ≤ Rows.uptoBulk d) (fun _ => rfl) (by omega) Tryz.underlying28 (by kernel_rfl) (fun n cs d pl h => by
    obtain ⟨m, e, a, _, b⟩ := open_rec h
    exact ⟨m, e, a, b⟩) hf
  simp [Value.cells] at hcs
  obtain ⟨rfl, rfl, rfl⟩ := hcs
  refine ⟨_, ms, _, rfl, ⟨rfl, h1, h2, h3, fun m hm => (h5 m hm).elim fun _ h => h.1⟩, ?_⟩
  rcases h4 with ⟨rfl, rfl⟩ | ⟨es, sp, rfl, he, hd⟩
  · exact .inl ⟨rfl, rfl⟩
  · exact .inr ⟨es, sp, rfl, he, bulk_recs es ms he fun i hi hd' => (hd i hi hd').2⟩
set_option maxRecDepth 100000 in
/-- A record by itself. -/
theorem open_record {W : World} {base : Nat} {v : Value} {d : DataW H} {p : List MemPlace}
    (hval : Value.okWide Tryz.prog W .any base 47 v) (h : DataW.Trod enc Tryz.prog W 0 (fun _ => true) true 47 v d p) :
    ∃ m : RM, v = aggR m ∧ Okm W m ∧ sizeR m.1 ≤ Rows.uptoBulk d := by
  obtain ⟨cs, rfl, _⟩ := okWide_struct Tryz.underlying47 hval
  obtain ⟨fuel, hf⟩ := h
  obtain ⟨m, hx, ho, _, hb⟩ := open_rec (show DataW.trod enc Tryz.prog W 0 (fun _ => true) true fuel 47 cs.toList = some (d, p) from hf)
  refine ⟨m, ?_, ho, hb⟩
  unfold aggR
  congr 1
  exact Array.ext' (by rw [hx]; rfl)
end
end Go.Proofs.YtkgmcabamhpjhaaGreat.RcOpen

namespace Go.Proofs.YtkgmcabamhpjhaaGreat.Need
open Go Go.RowKit Words PkPlain

def NRel (n : Nat) (x i : Value) : Prop := ∃ (k m : Nat), m < 18446744073709551616 ∧ x = .int .u64 (m : Int) ∧ i = .int .i64 (k : Int) ∧ k ≤ 64 ∧ Hid (need n = k + need m)

def SRel (m : Nat) (w : World) (v : Value) (wr : World) : Prop := ∃ i nq : Nat, i ≤ m ∧ v = .int .i64 (i : Int) ∧ wr = w.drewN nq

set_option maxHeartbeats 800000 in
/-- Two lists that are the same. -/
theorem same_eq (l : List UInt64) (A1 A2 : Option Addr) (n1 n2 c1 c2 : Nat) (w : World) (B1 B2 : Nat) (h1 : n1 = l.length) (h2 : n2 = l.length) (hr1 : Rd w B1 A1 (l.map B64)) (hr2 : Rd w B2 A2 (l.map B64)) (hl : l.length ≤ maxLen) :
    Calls Tryz.prog 17 #[.slice A1 n1 c1, .slice A2 n2 c2] w fun e w' => e = .returned (.bool true) ∧ ∃ nq, w' = w.drewN nq := by
  subst h1 h2
  unfold maxLen at hl
  have HR1 := Lib.hid hr1
  have HR2 := Lib.hid hr2
  clear hr1 hr2
  go_enter Tryz.func17, Tryz.ntmps17
  go_wp2
  go_loopw [5] (fun v wr => SRel l.length w v wr) (fun v _ => l.length - (intOf v).toNat)
  case atStart => exact ⟨0, 0, by omega, rfl, rfl⟩
  case round =>
    obtain ⟨i, nq, hi', rfl, rfl⟩ := hrel
    by_cases hlt : i < l.length
    · obtain ⟨b, off, rfl, _, hc1⟩ := HR1.out (by simp; omega)
      obtain ⟨b2, off2, rfl, _, hc2⟩ := HR2.out (by simp; omega)
      have k1 := cell64 hc1 hlt
      have k2 := cell64 hc2 hlt
      have hx := l[i].toNat_lt
      clear hc1 hc2
      generalize l[i].toNat = x at *
      have e1 : (x != x) = false := by simp
      have e2 : (0 : Int) ≤ (i : Int) := by omega
      have e3 : (i : Int) < (l.length : Int) := by omega
      go_wp2
      go_quiet (fail)
      go_wp2
      go_roundw
      case rel => exact ⟨i + 1, _, by omega, by go_num, rfl⟩
      case measure => simp [intOf]; omega
    · obtain rfl : i = l.length := by omega
      go_wp2
      go_ret
      exact ⟨rfl, _, rfl⟩
end Go.Proofs.YtkgmcabamhpjhaaGreat.Need

