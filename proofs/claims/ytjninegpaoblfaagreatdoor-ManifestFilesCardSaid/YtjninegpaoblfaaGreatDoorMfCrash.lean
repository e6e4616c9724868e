/- The statement's own Crash (garnerlaw15), as an argument, opened. No conditions. -/
import Derived.Test.YtjninegpaoblfaaGreatDoorOpens
import Derived.Test.YtjninegpaoblfaaGreatDoorPdRes
namespace Go.Proofs.YtjninegpaoblfaaGreatDoor.MfCrash
open Go Go.RowKit Go.WideShapes Go.ChangeShapes Words Ope Bulk PdRes MfSpec MfMem Rows_ MfOpen

section
variable {H : Type} {enc : TypeId × Value → H}
theorem flat_one (l : List Int) : l.flatMap (fun x => [I64 x]) = l.map I64 := by
  induction l with
  | nil => rfl
  | cons a l ih => simp only [List.flatMap_cons, List.map_cons, ih]; rfl
theorem open_i64s {W : World} {n : Nat} {v : Value} {d : DataW H} {pl : List MemPlace}
    (hf : DataW.trod enc Tryz.prog W 0 (fun _ => true) true n 23 [v] = some (d, pl)) : ∃ (A : Option Addr) (l : List Int) (c : Nat), v = .slice A l.length c ∧ l.length ≤ c ∧ c ≤ maxLen ∧ Rd W W.heap.size A (l.map I64) ∧ ∀ x ∈ l, In64 x := by
  obtain ⟨A, l, c, e, h1, h2, h3, _, h5⟩ := open_rows (cells := fun x => [I64 x]) (k := 1) (Φ := fun x _ => In64 x) (fun _ => rfl) (by omega) Tryz.underlying23 (by kernel_rfl) (fun n cs d pl h => by
    obtain ⟨x, e0, _, w0⟩ := DataW.trod_int Tryz.underlying3 h
    exact ⟨x, e0, in64 w0⟩) hf
  refine ⟨A, l, c, by injection e, h1, h2, ?_, fun x hx => (h5 x hx).elim fun _ h => h⟩
  rw [flat_one] at h3
  exact h3
set_option maxRecDepth 100000 in
theorem open_nums {W : World} {base : Nat} {v : Value} {d : DataW H} {p : List MemPlace}
    (hval : Value.okWide Tryz.prog W .any base 23 v) (h : DataW.Trod enc Tryz.prog W 0 (fun _ => true) true 23 v d p) :
    ∃ (A : Option Addr) (l : List Int) (c : Nat), v = .slice A l.length c ∧ l.length ≤ c ∧ c ≤ maxLen ∧ Rd W W.heap.size A (l.map I64) ∧ ∀ x ∈ l, In64 x := by
  obtain ⟨A0, len, cap, rfl⟩ := okWide_slice Tryz.underlying23 hval
  obtain ⟨fuel, hf⟩ := h
  exact open_i64s (show DataW.trod enc Tryz.prog W 0 (fun _ => true) true fuel 23 [.slice A0 len cap] = some (d, p) from hf)
theorem list2 {α : Type} {l : List α} (h : l.length = 2) : ∃ a b, l = [a, b] := by
  match l, h with
  | [a, b], _ => exact ⟨a, b, rfl⟩
end
end Go.Proofs.YtjninegpaoblfaaGreatDoor.MfCrash
