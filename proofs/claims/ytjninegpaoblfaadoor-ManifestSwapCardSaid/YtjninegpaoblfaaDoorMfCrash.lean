/- The statement's own Crash (garnerlaw15), as an argument, opened. No conditions. -/
import Derived.Test.YtjninegpaoblfaaDoorOpens
import Derived.Test.YtjninegpaoblfaaDoorPdRess
namespace Go.Proofs.YtjninegpaoblfaaDoor.MfCrash
open Go Go.RowKit Go.WideShapes Go.ChangeShapes Words Ope Bulk PdRes MfSpec MfMem Rows_ MfOpen

section
variable {H : Type} {enc : TypeId × Value → H}
theorem flat_one (l : List Int) : l.flatMap (fun x => [I64 x]) = l.map I64 := by
  induction l with
  | nil => rfl
  | cons a l ih => simp only [List.flatMap_cons, List.map_cons, ih]; rfl
theorem open_i64s {W : World} {n : Nat} {v : Value} {d : DataW H} {pl : List MemPlace}
    (hf : DataW.trod enc Tryd.prog W 0 (fun _ => true) true n 35 [v] = some (d, pl)) : ∃ (A : Option Addr) (l : List Int) (c : Nat), v = .slice A l.length c ∧ l.length ≤ c ∧ c ≤ maxLen ∧ Rd W W.heap.size A (l.map I64) ∧ ∀ x ∈ l, In64 x := by
  obtain ⟨A, l, c, e, h1, h2, h3, _, h5⟩ := open_rows (cells := fun x => [I64 x]) (k := 1) (Φ := fun x _ => In64 x) (fun _ => rfl) (by omega) Tryd.underlying35 (by kernel_rfl) (fun n cs d pl h => by
    obtain ⟨x, e0, _, w0⟩ := DataW.trod_int Tryd.underlying3 h
    exact ⟨x, e0, in64 w0⟩) hf
  refine ⟨A, l, c, by injection e, h1, h2, ?_, fun x hx => (h5 x hx).elim fun _ h => h⟩
  rw [flat_one] at h3
  exact h3
set_option maxRecDepth 100000 in
theorem open_nums {W : World} {base : Nat} {v : Value} {d : DataW H} {p : List MemPlace}
    (hval : Value.okWide Tryd.prog W .any base 35 v) (h : DataW.Trod enc Tryd.prog W 0 (fun _ => true) true 35 v d p) :
    ∃ (A : Option Addr) (l : List Int) (c : Nat), v = .slice A l.length c ∧ l.length ≤ c ∧ c ≤ maxLen ∧ Rd W W.heap.size A (l.map I64) ∧ ∀ x ∈ l, In64 x := by
  obtain ⟨A0, len, cap, rfl⟩ := okWide_slice Tryd.underlying35 hval
  obtain ⟨fuel, hf⟩ := h
  exact open_i64s (show DataW.trod enc Tryd.prog W 0 (fun _ => true) true fuel 35 [.slice A0 len cap] = some (d, p) from hf)
theorem list2 {α : Type} {l : List α} (h : l.length = 2) : ∃ a b, l = [a, b] := by
  match l, h with
  | [a, b], _ => exact ⟨a, b, rfl⟩
set_option maxRecDepth 100000 in
theorem open_crash {W : World} {base : Nat} {v : Value} {d : DataW H} {p : List MemPlace}
    (hval : Value.okWide Tryd.prog W .any base 37 v) (h : DataW.Trod enc Tryd.prog W 0 (fun _ => true) true 37 v d p) :
    ∃ (n : Int) (A : Option Addr) (l : List Int) (c : Nat), v = .agg #[.int .i64 n, .slice A l.length c] ∧ In64 n ∧ l.length ≤ c ∧ c ≤ maxLen ∧ Rd W W.heap.size A (l.map I64) ∧ ∀ x ∈ l, In64 x := by
  obtain ⟨cs, rfl, _⟩ := okWide_struct Tryd.underlying37 hval
  obtain ⟨fuel, hf⟩ := h
  have c3 : Tryd.prog.cellsOf 3 = 1 := by kernel_rfl
  have c31 : Tryd.prog.cellsOf 35 = 1 := by kernel_rfl
  have c33 : Tryd.prog.cellsOf 37 = 2 := by kernel_rfl
  obtain ⟨xs, m, _, hx, hl, hlen, hg⟩ := DataW.trod_struct Tryd.underlying37 (show DataW.trod enc Tryd.prog W 0 (fun _ => true) true fuel 37 cs.toList = some (d, p) from hf)
  rw [c33] at hl
  obtain ⟨v0, v1, e⟩ := list2 hl
  rw [e] at hg
  obtain ⟨y0, y1, rfl⟩ := list2 (show xs.length = 2 from hlen)
  have h0 := hg 0 _ rfl
  have h1 := hg 1 _ rfl
  simp only [List.getElem?_cons_zero, List.getElem?_cons_succ] at h0 h1
  obtain ⟨n0, e0, _, w0⟩ := DataW.trod_int Tryd.underlying3 h0
  obtain ⟨d1, p1⟩ := y1
  obtain ⟨A, l, c, e1, g1, g2, g3, g4⟩ := open_i64s h1
  have inj : ∀ {a b : Value}, [a] = [b] → a = b := fun h => by injection h
  replace e0 := inj e0
  subst e0 e1
  refine ⟨n0, A, l, c, ?_, in64 w0, g1, g2, g3, g4⟩
  congr 1
  exact Array.ext' (by rw [e])
end
end Go.Proofs.YtjninegpaoblfaaDoor.MfCrash
