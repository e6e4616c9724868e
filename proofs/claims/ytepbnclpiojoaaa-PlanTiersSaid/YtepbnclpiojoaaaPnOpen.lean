/- The statement's own numbers and marks, as arguments, opened. No conditions. -/
import Derived.Test.YtepbnclpiojoaaaSgOpen
import Derived.WideKeyArr2
namespace Go.Proofs.Ytepbnclpiojoaaa.PnOpen
open Go Go.RowKit Go.WideShapes Go.ChangeShapes Go.WideMaps Words SgMem SgOpen

section
variable {H : Type} {enc : TypeId × Value → H} {P : Program}
theorem open_twoW {t e : TypeId} {k : IntKind} (A : ArrKey P t e 2) (he : P.underlying e = some (.int k)) {W : World} {base : Nat} {v : Value} {d : DataW H} {p : List MemPlace}
    (hval : Value.okWide P W .any base t v) (h : DataW.Trod enc P W 0 (fun _ => true) true t v d p) :
    ∃ a b : Int, v = .agg #[.int k a, .int k b] ∧ (Lit.int k a).wf = true ∧ (Lit.int k b).wf = true := by
  obtain ⟨xs, rfl, hn⟩ := okWide_arr A hval
  obtain ⟨fuel, hf⟩ := h
  cases fuel with
  | zero => simp [DataW.trod] at hf
  | succ m =>
    rw [DataW.trod_step] at hf
    unfold DataW.trodStep at hf
    simp only [A.hu, Value.cells] at hf
    rw [if_pos (by rw [A.size]; simpa using hn)] at hf
    simp only [Option.map_eq_some_iff] at hf
    obtain ⟨ys, hy, e1⟩ := hf
    rw [A.one] at hy
    obtain ⟨l⟩ := xs
    match l, hn with
    | [x, y], _ =>
      simp only [List.range_succ, List.range_zero, List.nil_append, List.mapM_append, List.mapM_cons, List.mapM_nil] at hy
      simp [bind, Option.bind_eq_some_iff, pure] at hy
      obtain ⟨_, ⟨a1, p1, h1, rfl⟩, _, ⟨a2, p2, h2, rfl⟩, rfl⟩ := hy
      obtain ⟨n1, c1, q1, wf1⟩ := DataW.trod_int he h1
      obtain ⟨n2, c2, q2, wf2⟩ := DataW.trod_int he h2
      injection q1 with q1 q1'
      injection q2 with q2 q2'
      injection c1 with c1 _
      injection c2 with c2 _
      subst q1 q1' q2 q2' c1 c2
      exact ⟨n1, n2, rfl, wf1, wf2⟩
theorem list2 {α : Type} {l : List α} (h : l.length = 2) : ∃ a b, l = [a, b] := by
  match l, h with
  | [a, b], _ => exact ⟨a, b, rfl⟩
set_option maxRecDepth 100000 in
theorem open_marks {W : World} {base : Nat} {v : Value} {d : DataW H} {p : List MemPlace}
    (hval : Value.okWide Try.prog W .any base 37 v) (h : DataW.Trod enc Try.prog W 0 (fun _ => true) true 37 v d p) :
    ∃ a b : Int, v = .agg #[.int .i64 a, .int .i64 b] ∧ In64 a ∧ In64 b := by
  obtain ⟨a, b, e, h1, h2⟩ := open_twoW (e := 2) (k := .i64) ⟨Try.underlying37, by kernel_rfl, by kernel_rfl, by kernel_rfl⟩ Try.underlying2 hval h
  exact ⟨a, b, e, in64 h1, in64 h2⟩
set_option maxRecDepth 100000 in
theorem open_numbers {W : World} {base : Nat} {v : Value} {d : DataW H} {p : List MemPlace}
    (hval : Value.okWide Try.prog W .any base 36 v) (h : DataW.Trod enc Try.prog W 0 (fun _ => true) true 36 v d p) :
    ∃ a b : Int, v = .agg #[.int .i64 a, .int .i64 b] ∧ In64 a ∧ In64 b := by
  obtain ⟨cs, rfl, _⟩ := okWide_struct Try.underlying36 hval
  obtain ⟨fuel, hf⟩ := h
  have c3 : Try.prog.cellsOf 3 = 1 := by kernel_rfl
  have c33 : Try.prog.cellsOf 36 = 2 := by kernel_rfl
  obtain ⟨xs, m, _, hx, hl, hlen, hg⟩ := DataW.trod_struct Try.underlying36 (show DataW.trod enc Try.prog W 0 (fun _ => true) true fuel 36 cs.toList = some (d, p) from hf)
  rw [c33] at hl
  obtain ⟨v0, v1, e⟩ := list2 hl
  rw [e] at hg
  obtain ⟨y0, y1, rfl⟩ := list2 (show xs.length = 2 from hlen)
  have h0 := hg 0 _ rfl
  have h1 := hg 1 _ rfl
  simp only [List.getElem?_cons_zero, List.getElem?_cons_succ] at h0 h1
  obtain ⟨n0, e0, _, w0⟩ := DataW.trod_int Try.underlying3 h0
  obtain ⟨n1, e1, _, w1⟩ := DataW.trod_int Try.underlying3 h1
  have inj : ∀ {a b : Value}, [a] = [b] → a = b := fun h => by injection h
  replace e0 := inj e0
  replace e1 := inj e1
  subst e0 e1
  refine ⟨n0, n1, ?_, in64 w0, in64 w1⟩
  congr 1
  exact Array.ext' (by rw [e])
end
end Go.Proofs.Ytepbnclpiojoaaa.PnOpen
