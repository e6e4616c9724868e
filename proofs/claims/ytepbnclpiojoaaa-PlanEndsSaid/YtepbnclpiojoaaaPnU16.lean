/- A list of uint16 as an argument, opened. No conditions. -/
import Derived.Test.YtepbnclpiojoaaaSgOpen
namespace Go.Proofs.Ytepbnclpiojoaaa.PnU16
open Go Go.RowKit Go.WideShapes Go.ChangeShapes Words Ope Bulk SgMem SgOpen Rows_

section
variable {H : Type} {enc : TypeId × Value → H}
def V16 (x : Nat) : Value := .int .u16 (x : Int)
theorem wf16 {t : Int} (w0 : (Lit.int .u16 t).wf = true) : 0 ≤ t ∧ t ≤ 65535 := by
  have a1 : IntKind.u16.min = 0 := by decide
  have a2 : IntKind.u16.max = 65535 := by decide
  simp only [Lit.wf, Bool.and_eq_true, decide_eq_true_eq] at w0
  rw [a1, a2] at w0
  exact w0
theorem flat_16 (l : List Nat) : l.flatMap (fun x => [V16 x]) = l.map V16 := by
  induction l with
  | nil => rfl
  | cons a l ih => simp only [List.flatMap_cons, List.map_cons, ih]; rfl
set_option maxRecDepth 100000 in
theorem open_u16s {W : World} {base : Nat} {v : Value} {d : DataW H} {p : List MemPlace}
    (hval : Value.okWide Try.prog W .any base 30 v) (h : DataW.Trod enc Try.prog W 0 (fun _ => true) true 30 v d p) :
    ∃ (A : Option Addr) (l : List Nat) (c : Nat), v = .slice A l.length c ∧ l.length ≤ c ∧ c ≤ maxLen ∧ Rd W W.heap.size A (l.map V16) ∧ ∀ x ∈ l, x ≤ 65535 := by
  obtain ⟨A0, len, cap, rfl⟩ := okWide_slice Try.underlying30 hval
  obtain ⟨fuel, hf⟩ := h
  obtain ⟨A, l, c, e, h1, h2, h3, _, h5⟩ := open_rows (cells := fun x => [V16 x]) (k := 1) (Φ := fun x _ => x ≤ 65535) (fun _ => rfl) (by omega) Try.underlying30 (by kernel_rfl) (fun n cs d pl h => by
    obtain ⟨x, e0, _, w0⟩ := DataW.trod_int Try.underlying31 h
    obtain ⟨g1, g2⟩ := wf16 w0
    obtain ⟨y, rfl⟩ := Int.eq_ofNat_of_zero_le g1
    exact ⟨y, e0, by omega⟩) (show DataW.trod enc Try.prog W 0 (fun _ => true) true fuel 30 [.slice A0 len cap] = some (d, p) from hf)
  rw [flat_16] at h3
  exact ⟨A, l, c, by injection e, h1, h2, h3, fun x hx => (h5 x hx).elim fun _ h => h⟩
end
end Go.Proofs.Ytepbnclpiojoaaa.PnU16
