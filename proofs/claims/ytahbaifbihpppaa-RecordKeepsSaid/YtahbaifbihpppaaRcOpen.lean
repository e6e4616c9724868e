/- A slice of structs as an argument, opened (for any struct of a set number of cells); records and lists of records; what the bounds on bulk and weight give of them. No conditions. -/
import Derived.Test.YtahbaifbihpppaaRcMem
import Derived.Test.YtahbaifbihpppaaLbOpen
namespace Go.Proofs.Ytahbaifbihpppaa.RcOpen
open Go Go.RowKit Go.WideShapes Go.ChangeShapes Words Ope Bulk Less LbSpec LbText LbMem LbOpen RcSpec RcAll RcMem

section
variable {α : Type} {cells : α → List Value} {k : Nat}
theorem rows_len (hk : ∀ x, (cells x).length = k) : ∀ l : List α, (l.flatMap cells).length = l.length * k
  | [] => by simp
  | x :: l => by rw [List.flatMap_cons, List.length_append, hk, rows_len hk l, List.length_cons, Nat.succ_mul]; omega
theorem rows_at (hk : ∀ x, (cells x).length = k) : ∀ (l : List α) (i : Nat) (hi : i < l.length) (j : Nat), j < k → (l.flatMap cells)[i * k + j]? = (cells l[i])[j]?
  | x :: l, 0, _, j, hj => by
    rw [List.flatMap_cons, Nat.zero_mul, Nat.zero_add, List.getElem?_append_left (by rw [hk]; exact hj)]
    rfl
  | x :: l, i + 1, hi, j, hj => by
    rw [List.flatMap_cons, List.getElem?_append_right (by rw [hk, Nat.succ_mul]; omega), hk, show (i + 1) * k + j - k = i * k + j by rw [Nat.succ_mul]; omega, rows_at hk l i (by simpa using hi) j hj]
    rfl
end
section
variable {H : Type} {enc : TypeId × Value → H}
set_option maxRecDepth 100000 in
theorem open_rows {α : Type} [Inhabited α] {cells : α → List Value} {k : Nat} {W : World} {t e : TypeId} {fuel : Nat} {cs : List Value} {d : DataW H} {p : List MemPlace} {Φ : α → DataW H → Prop}
    (hk : ∀ x, (cells x).length = k) (hpos : 0 < k) (ht : Try.prog.underlying t = some (.slice e)) (hc : Try.prog.cellsOf e = k)
    (helem : ∀ n cs d pl, DataW.trod enc Try.prog W 0 (fun _ => true) true n e cs = some (d, pl) → ∃ x : α, cs = cells x ∧ Φ x d)
    (h : DataW.trod enc Try.prog W 0 (fun _ => true) true fuel t cs = some (d, p)) :
    ∃ (A : Option Addr) (l : List α) (c : Nat), cs = [.slice A l.length c] ∧ l.length ≤ c ∧ c ≤ maxLen ∧ Rd W W.heap.size A (l.flatMap cells) ∧
      ((d = .nil ∧ l = []) ∨ ∃ es sp, d = .slice es sp ∧ es.length = l.length ∧ ∀ (i : Nat) (hi : i < l.length) (hd : i < es.length), Φ l[i] es[i]) ∧ ∀ x ∈ l, ∃ d, Φ x d := by
  rcases Deep.open_slice ht h with ⟨hcs, hx⟩ | ⟨a, len, cap, m, n, D, Pl, hcs, _, hl, hm, hz, hx, hel⟩
  · simp only [Prod.mk.injEq] at hx
    obtain ⟨rfl, rfl⟩ := hx
    exact ⟨.none, [], 0, hcs, Nat.le_refl _, by unfold maxLen; omega, Rd.nil_, .inl ⟨rfl, rfl⟩, fun x hx => by cases hx⟩
  · simp only [Prod.mk.injEq] at hx
    obtain ⟨rfl, rfl⟩ := hx
    simp only [if_true] at hz
    subst hz
    have key : ∀ i, i < len → ∃ x : α, (∀ j, j < k → W.cell? ((a.add (i * k)).add j) = (cells x)[j]?) ∧ Φ x (D i) := fun i hi => by
      obtain ⟨cs', h1, h2⟩ := hel i (by omega)
      rw [hc] at h1
      obtain ⟨_, hlen, hcell⟩ := World.cells?_some h1
      obtain ⟨x, hx, hr⟩ := helem _ _ _ _ h2
      refine ⟨x, fun j hj => ?_, hr⟩
      rw [hcell j hj, hx]
    obtain ⟨g, hg⟩ := Deep.choose_lt key
    refine ⟨some a, (List.range len).map g, m, by simpa using hcs, by simpa using hl, hm, fun hn => ?_, .inr ⟨_, _, rfl, by simp, fun i hi hd => ?_⟩, fun x hx => ?_⟩
    · rw [rows_len hk] at hn
      simp only [List.length_map, List.length_range] at hn
      have hlen : 0 < len := by
        rcases Nat.eq_zero_or_pos len with h0 | h0
        · rw [h0, Nat.zero_mul] at hn; omega
        · exact h0
      have h00 := (hg 0 hlen).1 0 hpos
      obtain ⟨u0, hu0⟩ : ∃ u, (cells (g 0))[0]? = some u := ⟨_, List.getElem?_eq_getElem (by rw [hk]; exact hpos)⟩
      have hspot : ∃ b off, a = ⟨b, off, .none⟩ := by
        obtain ⟨b, off, spot⟩ := a
        have h1 : W.cell? ⟨b, off, spot⟩ = some u0 := by
          rw [hu0] at h00
          simp only [Nat.zero_mul] at h00
          have h2 := h00
          unfold Addr.add at h2
          simpa using h2
        have : spot = .none := World.cell?_spot h1
        subst this
        exact ⟨b, off, rfl⟩
      obtain ⟨b, off, rfl⟩ := hspot
      have hcc : ∀ i, i < len → ∀ j, j < k → W.cell? ⟨b, off + i * k + j, .none⟩ = (cells (g i))[j]? := fun i hi j hj => by
        rw [← (hg i hi).1 j hj, add_off, add_off]
      refine ⟨b, off, rfl, ?_, fun j u hu => ?_⟩
      · have h2 : W.cell? ⟨b, off + 0 * k + 0, .none⟩ = some u0 := (hcc 0 hlen 0 hpos).trans hu0
        exact World.block_lt_of_cell? W _ h2
      · have hjl : j < ((List.range len).map g).length * k := by rw [← rows_len hk]; exact (List.getElem?_eq_some_iff.1 hu).1
        simp only [List.length_map, List.length_range] at hjl
        have hi : j / k < len := (Nat.div_lt_iff_lt_mul hpos).2 hjl
        have hjm : j % k < k := Nat.mod_lt _ hpos
        have e0 : j / k * k + j % k = j := by rw [Nat.mul_comm]; exact Nat.div_add_mod j k
        have h3 := hcc (j / k) hi (j % k) hjm
        have h4 := rows_at hk ((List.range len).map g) (j / k) (by simpa using hi) (j % k) hjm
        rw [e0, hu] at h4
        rw [show off + j / k * k + j % k = off + j by omega] at h3
        rw [h3, h4]
        simp
    · simp only [List.length_map, List.length_range] at hi
      simpa using (hg i hi).2
    · obtain ⟨i, hi, rfl⟩ := List.mem_map.1 hx
      exact ⟨_, (hg i (List.mem_range.1 hi)).2⟩

/-! ### Records -/
theorem list4 {α : Type} {l : List α} (h : l.length = 4) : ∃ a b c d, l = [a, b, c, d] := by
  match l, h with
  | [a, b, c, d], _ => exact ⟨a, b, c, d, rfl⟩
def sizeR (r : Rec) : Nat := total r.labels + 2 * r.labels.length + r.line.length + 1
set_option maxRecDepth 100000 in
theorem open_rec {W : World} {n : Nat} {cs : List Value} {d : DataW H} {pl : List MemPlace} (h : DataW.trod enc Try.prog W 0 (fun _ => true) true n 33 cs = some (d, pl)) :
    ∃ m : RM, cs = rcells m ∧ Okm W m ∧ m.1.line.length ≤ maxLen ∧ sizeR m.1 ≤ Rows.uptoBulk d := by
  have ci : Try.prog.cellsOf 2 = 1 := by kernel_rfl
  have cu : Try.prog.cellsOf 30 = 1 := by kernel_rfl
  have cl : Try.prog.cellsOf 31 = 1 := by kernel_rfl
  have c9 : Try.prog.cellsOf 9 = 1 := by kernel_rfl
  have c37 : Try.prog.cellsOf 33 = 4 := by kernel_rfl
  obtain ⟨xs, m, _, hx, hl, hlen, hf⟩ := DataW.trod_struct Try.underlying33 h
  rw [c37] at hl
  obtain ⟨v0, v1, v2, v3, rfl⟩ := list4 hl
  obtain ⟨y0, y1, y2, y3, rfl⟩ := list4 (show xs.length = 4 from hlen)
  have h0 := hf 0 _ rfl
  have h1 := hf 1 _ rfl
  have h2 := hf 2 _ rfl
  have h3 := hf 3 _ rfl
  simp only [ci, cu, cl, c9, List.drop_zero, List.drop_succ_cons, List.take_succ_cons, List.take_zero, List.getElem?_cons_zero, List.getElem?_cons_succ] at h0 h1 h2 h3
  obtain ⟨t, e0, x0, w0⟩ := DataW.trod_int Try.underlying2 h0
  obtain ⟨s, e1, x1, w1⟩ := DataW.trod_int Try.underlying30 h1
  obtain ⟨d2, p2⟩ := y2
  obtain ⟨A, l, c, e2, hl1, hl2, hrd, hd, _⟩ := open_rows (cells := fun x : Lab => [S8 x.1, S8 x.2]) (k := 2) (Φ := fun x d => x.1.length + x.2.length + 2 ≤ Rows.uptoBulk d) (fun _ => rfl) (by omega) Try.underlying31 (by kernel_rfl) (fun n cs d pl h => open_lab h) h2
  obtain ⟨ln, e3, x3, hln⟩ := DataW.trod_string Try.underlying9 h3
  have inj : ∀ {a b : Value}, [a] = [b] → a = b := fun h => by injection h
  replace e0 := inj e0
  replace e1 := inj e1
  replace e2 := inj e2
  replace e3 := inj e3
  subst e0 e1 e2 e3 x0 x1 x3
  injection hx with hx _
  subst hx
  have ht : Time64 t := by
    have a1 : IntKind.i64.min = -9223372036854775808 := by decide
    have a2 : IntKind.i64.max = 9223372036854775807 := by decide
    simp only [Lit.wf, Bool.and_eq_true, decide_eq_true_eq] at w0
    rw [a1, a2] at w0
    exact w0
  have hs : 0 ≤ s ∧ s < 18446744073709551616 := by
    have a1 : IntKind.u64.min = 0 := by decide
    have a2 : IntKind.u64.max = 18446744073709551615 := by decide
    simp only [Lit.wf, Bool.and_eq_true, decide_eq_true_eq] at w1
    rw [a1, a2] at w1
    omega
  have hb : total l + 2 * l.length ≤ Rows.uptoBulk d2 := by
    rcases hd with ⟨rfl, rfl⟩ | ⟨es, sp, rfl, he, hd⟩
    · simp [total]
    · have := bulk_labs es l he hd
      simp only [Rows.uptoBulk]
      omega
  refine ⟨(⟨t, s.toNat, l, ln.data.toList⟩, A, l.length, c), ?_, ⟨⟨rfl, hl1, hl2, ?_⟩, ht, show s.toNat < 18446744073709551616 by omega⟩, ?_, ?_⟩
  · unfold rcells slV S8
    rw [show ((s.toNat : Nat) : Int) = s from Int.toNat_of_nonneg hs.1]
  · exact hrd
  · exact hln
  · show total l + 2 * l.length + ln.data.toList.length + 1 ≤ _
    simp only [List.map_cons, List.map_nil, Rows.uptoBulk, Rows.uptoBulkAll]
    omega
/-- The bulk of records. -/
def totalR (l : List RM) : Nat := (l.map fun m => sizeR m.1).sum
theorem bulk_recs : ∀ (ds : List (DataW H)) (l : List RM), ds.length = l.length → (∀ (i : Nat) (hi : i < l.length) (hd : i < ds.length), sizeR (l[i]).1 ≤ Rows.uptoBulk ds[i]) → totalR l ≤ Rows.uptoBulkAll ds
  | [], [], _, _ => by simp [totalR, Rows.uptoBulkAll]
  | d :: ds, x :: l, hl, h => by
    have h0 := h 0 (by simp) (by simp)
    simp only [List.getElem_cons_zero] at h0
    have h1 := bulk_recs ds l (by simpa using hl) (fun i hi hd => by
      have := h (i + 1) (by simp; omega) (by simp; omega)
      simpa using this)
    unfold totalR at h1 ⊢
    simp only [Rows.uptoBulkAll, List.map_cons, List.sum_cons] at *
    omega
def RecsD (d : DataW H) (l : List RM) : Prop := (d = .nil ∧ l = []) ∨ ∃ es sp, d = .slice es sp ∧ es.length = l.length ∧ totalR l ≤ Rows.uptoBulkAll es
theorem recs_bulk {d : DataW H} {l : List RM} (h : RecsD d l) : totalR l ≤ Rows.uptoBulk d := by
  rcases h with ⟨rfl, rfl⟩ | ⟨es, sp, rfl, _, h⟩
  · simp [totalR]
  · simp only [Rows.uptoBulk]
    omega
set_option maxRecDepth 100000 in
theorem recs_weigh {d : DataW H} {l : List RM} (h : RecsD d l) (hw : (d.weights Try.prog 22).all (· ≤ reachBytes) = true) : l.length * 56 ≤ 140737488351232 := by
  rcases h with ⟨rfl, rfl⟩ | ⟨es, sp, rfl, he, _⟩
  · simp
  · rw [DataW.weights, Try.underlying22] at hw
    simp only [List.all_cons, Bool.and_eq_true, decide_eq_true_eq] at hw
    have h1 := hw.1
    simp only [reachBytes] at h1
    have hb : Try.prog.bytesOf 33 = 56 := by kernel_rfl
    rw [hb] at h1
    have : l.length * 56 ≤ (es.length + sp.length) * 56 := Nat.mul_le_mul (by omega) (Nat.le_refl _)
    omega
instance : Inhabited RM := ⟨(⟨0, 0, [], []⟩, .none, 0, 0)⟩
set_option maxRecDepth 100000 in
/-- A list of records as an argument. -/
theorem open_recs {W : World} {base : Nat} {v : Value} {d : DataW H} {p : List MemPlace}
    (hval : Value.okWide Try.prog W .any base 22 v) (h : DataW.Trod enc Try.prog W 0 (fun _ => true) true 22 v d p) :
    ∃ (A : Option Addr) (ms : List RM) (c : Nat), v = .slice A ms.length c ∧ Rl W A ms.length c ms ∧ RecsD d ms := by
  obtain ⟨A0, len, cap, rfl⟩ := okWide_slice Try.underlying22 hval
  obtain ⟨fuel, hf⟩ := h
  obtain ⟨A, ms, c, hcs, h1, h2, h3, h4, h5⟩ := open_rows (cells := rcells) (k := 4) (Φ := fun m d => Okm W m ∧ sizeR m.1 ≤ Rows.uptoBulk d) (fun _ => rfl) (by omega) Try.underlying22 (by kernel_rfl) (fun n cs d pl h => by
    obtain ⟨m, e, a, _, b⟩ := open_rec h
    exact ⟨m, e, a, b⟩) hf
  simp [Value.cells] at hcs
  obtain ⟨rfl, rfl, rfl⟩ := hcs
  refine ⟨_, ms, _, rfl, ⟨rfl, h1, h2, h3, fun m hm => (h5 m hm).elim fun _ h => h.1⟩, ?_⟩
  rcases h4 with ⟨rfl, rfl⟩ | ⟨es, sp, rfl, he, hd⟩
  · exact .inl ⟨rfl, rfl⟩
  · exact .inr ⟨es, sp, rfl, he, bulk_recs es ms he fun i hi hd' => (hd i hi hd').2⟩
set_option maxRecDepth 100000 in
/-- A record by itself. -/
theorem open_record {W : World} {base : Nat} {v : Value} {d : DataW H} {p : List MemPlace}
    (hval : Value.okWide Try.prog W .any base 33 v) (h : DataW.Trod enc Try.prog W 0 (fun _ => true) true 33 v d p) :
    ∃ m : RM, v = aggR m ∧ Okm W m ∧ sizeR m.1 ≤ Rows.uptoBulk d := by
  obtain ⟨cs, rfl, _⟩ := okWide_struct Try.underlying33 hval
  obtain ⟨fuel, hf⟩ := h
  obtain ⟨m, hx, ho, _, hb⟩ := open_rec (show DataW.trod enc Try.prog W 0 (fun _ => true) true fuel 33 cs.toList = some (d, p) from hf)
  refine ⟨m, ?_, ho, hb⟩
  unfold aggR
  congr 1
  exact Array.ext' (by rw [hx]; rfl)
end
end Go.Proofs.Ytahbaifbihpppaa.RcOpen
