/- A crash (a number and a list of numbers) as an argument, opened. No conditions. -/
import Derived.Test.YtapbjmbakpopcaaDoorOpens
import Derived.Test.YtapbjmbakpopcaaDoorWords
import Derived.Test.YtapbjmbakpopcaaDoorPdRes
import Derived.Test.YtapbjmbakpopcaaDoorWlLaw
namespace Go.Proofs.YtapbjmbakpopcaaDoor.WlOpen
open Go Go.RowKit Go.WideShapes Go.ChangeShapes Words Ope PdRes WlLaw

theorem wf_bounds {x : Int} (h : (Lit.int .i64 x).wf = true) : In64 x := by
  simp only [Lit.wf, Bool.and_eq_true, decide_eq_true_eq] at h
  rw [show IntKind.i64.min = -9223372036854775808 from rfl, show IntKind.i64.max = 9223372036854775807 from rfl] at h
  exact h
section
variable {H : Type} {enc : TypeId × Value → H}
theorem open_i64s {W : World} {n : Nat} {v : Value} {d : DataW H} {pl : List MemPlace}
    (hf : DataW.trod enc Tryd.prog W 0 (fun _ => true) true n 24 [v] = some (d, pl)) : ∃ (A : Option Addr) (l : List Int) (c : Nat), v = .slice A l.length c ∧ l.length ≤ c ∧ c ≤ maxLen ∧ Rd W W.heap.size A (l.map I64) ∧ ∀ x ∈ l, In64 x := by
  rcases open_ints Tryd.underlying24 Tryd.underlying3 (by kernel_rfl) hf with ⟨hcs, _⟩ | ⟨a, len, cap, zs, hcs, _, hl, hm, hz, _, hcell, hwz⟩
  · simp only [List.cons.injEq, and_true] at hcs
    subst hcs
    exact ⟨none, [], 0, rfl, Nat.le_refl _, by unfold maxLen; omega, Rd.nil_, fun x hx => by cases hx⟩
  · simp only [List.cons.injEq, and_true] at hcs
    subst hcs
    simp only [if_true] at hz
    have hlen : (zs.take len).length = len := by simp; omega
    refine ⟨some a, zs.take len, cap, by rw [hlen], by rw [hlen]; exact hl, hm, fun hn => ?_, fun x hx => wf_bounds (hwz x (List.mem_of_mem_take hx))⟩
    rw [List.length_map, hlen] at hn
    obtain ⟨b, off, rfl, hc'⟩ := ints_at hcell (by omega)
    refine ⟨b, off, rfl, World.block_lt_of_cell? W _ (hc' 0 (by omega)), fun j u hu => ?_⟩
    rw [List.getElem?_map, List.getElem?_take] at hu
    split at hu
    · have hj : j < zs.length := by omega
      rw [hc' j hj]
      simp [List.getElem?_eq_getElem hj] at hu
      subst hu
      simp [List.getD, hj, I64]
    · simp at hu
theorem list2 {α : Type} {l : List α} (h : l.length = 2) : ∃ a b, l = [a, b] := by
  match l, h with
  | [a, b], _ => exact ⟨a, b, rfl⟩
set_option maxRecDepth 100000 in
theorem open_crash {W : World} {base : Nat} {v : Value} {d : DataW H} {p : List MemPlace}
    (hval : Value.okWide Tryd.prog W .any base 26 v) (h : DataW.Trod enc Tryd.prog W 0 (fun _ => true) true 26 v d p) :
    ∃ (n : Int) (A : Option Addr) (l : List Int) (c : Nat), v = .agg #[.int .i64 n, .slice A l.length c] ∧ In64 n ∧ l.length ≤ c ∧ c ≤ maxLen ∧ Rd W W.heap.size A (l.map I64) ∧ ∀ x ∈ l, In64 x := by
  obtain ⟨cs, rfl, _⟩ := okWide_struct Tryd.underlying26 hval
  obtain ⟨fuel, hf⟩ := h
  have c3 : Tryd.prog.cellsOf 3 = 1 := by kernel_rfl
  have c31 : Tryd.prog.cellsOf 24 = 1 := by kernel_rfl
  have c33 : Tryd.prog.cellsOf 26 = 2 := by kernel_rfl
  obtain ⟨xs, m, _, hx, hl, hlen, hg⟩ := DataW.trod_struct Tryd.underlying26 (show DataW.trod enc Tryd.prog W 0 (fun _ => true) true fuel 26 cs.toList = some (d, p) from hf)
  rw [c33] at hl
  obtain ⟨v0, v1, e⟩ := list2 hl
  rw [e] at hg
  obtain ⟨y0, y1, rfl⟩ := list2 (show xs.length = 2 from hlen)
  have h0 := hg 0 _ rfl
  have h1 := hg 1 _ rfl
  simp only [c3, c31, List.drop_zero, List.drop_succ_cons, List.take_succ_cons, List.take_zero, List.getElem?_cons_zero, List.getElem?_cons_succ] at h0 h1
  obtain ⟨n0, e0, _, w0⟩ := DataW.trod_int Tryd.underlying3 h0
  obtain ⟨d1, p1⟩ := y1
  obtain ⟨A, l, c, e1, g1, g2, g3, g4⟩ := open_i64s h1
  have inj : ∀ {a b : Value}, [a] = [b] → a = b := fun h => by injection h
  replace e0 := inj e0
  subst e0 e1
  refine ⟨n0, A, l, c, ?_, wf_bounds w0, g1, g2, g3, g4⟩
  congr 1
  exact Array.ext' (by rw [e])
end
end Go.Proofs.YtapbjmbakpopcaaDoor.WlOpen
