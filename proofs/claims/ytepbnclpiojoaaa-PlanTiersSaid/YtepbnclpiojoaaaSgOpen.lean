/- A list of segments as an argument, opened; what the bound on weight gives of it. No conditions. -/
import Derived.Test.YtepbnclpiojoaaaSgMem
import Derived.Test.YtepbnclpiojoaaaRowsO
namespace Go.Proofs.Ytepbnclpiojoaaa.SgOpen
open Go Go.RowKit Go.WideShapes Go.ChangeShapes Words Ope Bulk SgMem Rows_

section
variable {H : Type} {enc : TypeId × Value → H}
theorem list4 {α : Type} {l : List α} (h : l.length = 4) : ∃ a b c d, l = [a, b, c, d] := by
  match l, h with
  | [a, b, c, d], _ => exact ⟨a, b, c, d, rfl⟩
theorem in64 {t : Int} (w0 : (Lit.int .i64 t).wf = true) : In64 t := by
  have a1 : IntKind.i64.min = -9223372036854775808 := by decide
  have a2 : IntKind.i64.max = 9223372036854775807 := by decide
  simp only [Lit.wf, Bool.and_eq_true, decide_eq_true_eq] at w0
  rw [a1, a2] at w0
  exact w0
set_option maxRecDepth 100000 in
theorem open_seg {W : World} {n : Nat} {cs : List Value} {d : DataW H} {pl : List MemPlace} (h : DataW.trod enc Try.prog W 0 (fun _ => true) true n 33 cs = some (d, pl)) :
    ∃ s : Sg, cs = scells s ∧ SgOk s := by
  have ci : Try.prog.cellsOf 2 = 1 := by kernel_rfl
  have cn : Try.prog.cellsOf 3 = 1 := by kernel_rfl
  have c4 : Try.prog.cellsOf 33 = 4 := by kernel_rfl
  obtain ⟨xs, m, _, hx, hl, hlen, hf⟩ := DataW.trod_struct Try.underlying33 h
  rw [c4] at hl
  obtain ⟨v0, v1, v2, v3, rfl⟩ := list4 hl
  obtain ⟨y0, y1, y2, y3, rfl⟩ := list4 (show xs.length = 4 from hlen)
  have h0 := hf 0 _ rfl
  have h1 := hf 1 _ rfl
  have h2 := hf 2 _ rfl
  have h3 := hf 3 _ rfl
  simp only [List.getElem?_cons_zero, List.getElem?_cons_succ] at h0 h1 h2 h3
  obtain ⟨a, e0, x0, w0⟩ := DataW.trod_int Try.underlying3 h0
  obtain ⟨b, e1, x1, w1⟩ := DataW.trod_int Try.underlying3 h1
  obtain ⟨c, e2, x2, w2⟩ := DataW.trod_int Try.underlying2 h2
  obtain ⟨e, e3, x3, w3⟩ := DataW.trod_int Try.underlying2 h3
  have inj : ∀ {a b : Value}, [a] = [b] → a = b := fun h => by injection h
  replace e0 := inj e0
  replace e1 := inj e1
  replace e2 := inj e2
  replace e3 := inj e3
  subst e0 e1 e2 e3
  exact ⟨⟨a, b, c, e⟩, rfl, in64 w0, in64 w1, in64 w2, in64 w3⟩
instance : Inhabited Sg := ⟨⟨0, 0, 0, 0⟩⟩
/-- What a slice of segments reads as, for the bound on weight. -/
def SegsD (d : DataW H) (n : Nat) : Prop := (d = .nil ∧ n = 0) ∨ ∃ es sp, d = .slice es sp ∧ es.length = n
set_option maxRecDepth 100000 in
theorem open_segs {W : World} {base : Nat} {v : Value} {d : DataW H} {p : List MemPlace}
    (hval : Value.okWide Try.prog W .any base 22 v) (h : DataW.Trod enc Try.prog W 0 (fun _ => true) true 22 v d p) :
    ∃ (A : Option Addr) (l : List Sg) (c : Nat), v = .slice A l.length c ∧ Sgs W (A, l.length, c) l ∧ (∀ x ∈ l, SgOk x) ∧ SegsD d l.length := by
  obtain ⟨A0, len, cap, rfl⟩ := okWide_slice Try.underlying22 hval
  obtain ⟨fuel, hf⟩ := h
  obtain ⟨A, l, c, hcs, h1, h2, h3, h4, h5⟩ := open_rows (cells := scells) (k := 4) (Φ := fun s _ => SgOk s) (fun _ => rfl) (by omega) Try.underlying22 (by kernel_rfl) (fun n cs d pl h => open_seg h) hf
  simp [Value.cells] at hcs
  obtain ⟨rfl, rfl, rfl⟩ := hcs
  refine ⟨_, l, _, rfl, ⟨rfl, h1, h2, h3⟩, fun x hx => (h5 x hx).elim fun _ h => h, ?_⟩
  rcases h4 with ⟨rfl, rfl⟩ | ⟨es, sp, rfl, he, _⟩
  · exact .inl ⟨rfl, rfl⟩
  · exact .inr ⟨es, sp, rfl, he⟩
set_option maxRecDepth 100000 in
theorem segs_weigh {d : DataW H} {n : Nat} (h : SegsD d n) (hw : (d.weights Try.prog 22).all (· ≤ reachBytes) = true) : n * 32 ≤ 140737488351232 := by
  rcases h with ⟨rfl, rfl⟩ | ⟨es, sp, rfl, he⟩
  · omega
  · rw [DataW.weights, Try.underlying22] at hw
    simp only [List.all_cons, Bool.and_eq_true, decide_eq_true_eq] at hw
    have h1 := hw.1
    simp only [reachBytes] at h1
    have hb : Try.prog.bytesOf 33 = 32 := by kernel_rfl
    rw [hb] at h1
    have : n * 32 ≤ (es.length + sp.length) * 32 := Nat.mul_le_mul (by omega) (Nat.le_refl _)
    omega
end
end Go.Proofs.Ytepbnclpiojoaaa.SgOpen
