/- Opening an argument that is an array of two integers. Of no program. No conditions. -/
import Derived.WideKeyArr2
import Derived.Test.YtebdolfcemplnaaOpen
namespace Go.Proofs.Ytebdolfcemplnaa.OpenTwo
open Go Go.RowKit Go.WideShapes Go.ChangeShapes Go.WideMaps
section
variable {H : Type} {enc : TypeId × Value → H} {P : Program}
theorem open_two {t e : TypeId} {k : IntKind} (A : ArrKey P t e 2) (he : P.underlying e = some (.int k)) {W : World} {base : Nat} {v : Value} {d : DataW H} {p : List MemPlace}
    (hval : Value.okWide P W .any base t v) (h : DataW.Trod enc P W 0 (fun _ => true) true t v d p) :
    ∃ a b : Int, v = .agg #[.int k a, .int k b] ∧ d = .agg [.lit (.int k a), .lit (.int k b)] ∧ p = [] := by
  obtain ⟨xs, rfl, hn⟩ := okWide_arr A hval
  obtain ⟨fuel, hf⟩ := h
  cases fuel with
  | zero => simp [DataW.trod] at hf
  | succ m =>
    rw [DataW.trod_step] at hf
    unfold DataW.trodStep at hf
    simp only [A.hu, Value.cells] at hf
    rw [if_pos (by rw [A.size]; simpa using hn)] at hf
    simp only [Option.map_eq_some_iff] at hf
    obtain ⟨ys, hy, e1⟩ := hf
    rw [A.one] at hy
    obtain ⟨l⟩ := xs
    match l, hn with
    | [x, y], _ =>
      simp only [List.range_succ, List.range_zero, List.nil_append, List.mapM_append, List.mapM_cons, List.mapM_nil] at hy
      simp [bind, Option.bind_eq_some_iff, pure] at hy
      obtain ⟨_, ⟨a1, p1, h1, rfl⟩, _, ⟨a2, p2, h2, rfl⟩, rfl⟩ := hy
      obtain ⟨n1, c1, q1, _⟩ := DataW.trod_int he h1
      obtain ⟨n2, c2, q2, _⟩ := DataW.trod_int he h2
      injection q1 with q1 q1'
      injection q2 with q2 q2'
      injection c1 with c1 _
      injection c2 with c2 _
      subst q1 q1' q2 q2' c1 c2
      simp only [Prod.mk.injEq] at e1
      exact ⟨n1, n2, rfl, e1.1.symm, by rw [← e1.2]; rfl⟩
end
end Go.Proofs.Ytebdolfcemplnaa.OpenTwo
