/- A list of runes as an argument, opened. No conditions. -/
import Derived.Test.YtdmbgjpidlllcaaRxMems
import Derived.Test.YtdmbgjpidlllcaaRowsO
namespace Go.Proofs.Ytdmbgjpidlllcaa.RxOpen
open Go Go.RowKit Go.WideShapes Go.ChangeShapes Words Ope Bulk RxMem Rows_

section
variable {H : Type} {enc : TypeId × Value → H}
theorem wf32 {t : Int} (w0 : (Lit.int .i32 t).wf = true) : -2147483648 ≤ t ∧ t ≤ 2147483647 := by
  have a1 : IntKind.i32.min = -2147483648 := by decide
  have a2 : IntKind.i32.max = 2147483647 := by decide
  simp only [Lit.wf, Bool.and_eq_true, decide_eq_true_eq] at w0
  rw [a1, a2] at w0
  exact w0
theorem flat_32 (l : List Int) : l.flatMap (fun x => [I32 x]) = l.map I32 := by
  induction l with
  | nil => rfl
  | cons a l ih => simp only [List.flatMap_cons, List.map_cons, ih]; rfl
set_option maxRecDepth 100000 in
theorem open_i32s {W : World} {base : Nat} {v : Value} {d : DataW H} {p : List MemPlace}
    (hval : Value.okWide Try.prog W .any base 31 v) (h : DataW.Trod enc Try.prog W 0 (fun _ => true) true 31 v d p) :
    ∃ (A : Option Addr) (l : List Int) (c : Nat), v = .slice A l.length c ∧ l.length ≤ c ∧ c ≤ maxLen ∧ Rd W W.heap.size A (l.map I32) ∧ ∀ x ∈ l, -2147483648 ≤ x ∧ x ≤ 2147483647 := by
  obtain ⟨A0, len, cap, rfl⟩ := okWide_slice Try.underlying31 hval
  obtain ⟨fuel, hf⟩ := h
  obtain ⟨A, l, c, e, h1, h2, h3, _, h5⟩ := open_rows (cells := fun x => [I32 x]) (k := 1) (Φ := fun x _ => -2147483648 ≤ x ∧ x ≤ 2147483647) (fun _ => rfl) (by omega) Try.underlying31 (by kernel_rfl) (fun n cs d pl h => by
    obtain ⟨x, e0, _, w0⟩ := DataW.trod_int Try.underlying21 h
    exact ⟨x, e0, wf32 w0⟩) (show DataW.trod enc Try.prog W 0 (fun _ => true) true fuel 31 [.slice A0 len cap] = some (d, p) from hf)
  rw [flat_32] at h3
  exact ⟨A, l, c, by injection e, h1, h2, h3, fun x hx => (h5 x hx).elim fun _ h => h⟩
end
end Go.Proofs.Ytdmbgjpidlllcaa.RxOpen
