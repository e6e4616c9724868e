/- A script of calls on a head as an argument, opened; what the bound on bulk gives of it. No conditions. -/
import Derived.Test.YtkgmcabamhpjhaaGreatOpens
namespace Go.Proofs.YtkgmcabamhpjhaaGreat.HdOpen
open Go Go.RowKit Go.WideShapes Go.ChangeShapes Words Ope Bulk Less LbSpec LbText LbMem LbOpen RcSpec RcAll RcMem RcOpen

/-- One call: its kind, a term, records. -/
structure HOp where
  kind : Int
  term : List UInt8
  ms : List RM
  A : Option Addr
  c : Nat
instance : Inhabited HOp := ⟨⟨0, [], [], .none, 0⟩⟩
def ocells (o : HOp) : List Value := [.int .i64 o.kind, S8 o.term, .slice o.A o.ms.length o.c]
/-- It lies in memory. -/
def OkO (w : World) (o : HOp) : Prop := Rl w o.A o.ms.length o.c o.ms ∧ o.term.length ≤ maxLen ∧ (Lit.int .i64 o.kind).wf = true
def sizeO (o : HOp) : Nat := totalR o.ms + o.term.length
def flatO (l : List HOp) : List Value := l.flatMap ocells
def totalO (l : List HOp) : Nat := (l.map sizeO).sum
section
variable {H : Type} {enc : TypeId × Value → H}
theorem list3 {α : Type} {l : List α} (h : l.length = 3) : ∃ a b c, l = [a, b, c] := by
  match l, h with
  | [a, b, c], _ => exact ⟨a, b, c, rfl⟩
set_option maxRecDepth 100000 in
theorem open_hop {W : World} {n : Nat} {cs : List Value} {d : DataW H} {pl : List MemPlace} (h : DataW.trod enc Tryz.prog W 0 (fun _ => true) true n 30 cs = some (d, pl)) :
    ∃ o : HOp, cs = ocells o ∧ OkO W o ∧ sizeO o ≤ Rows.uptoBulk d := by
  have ci : Tryz.prog.cellsOf 3 = 1 := by kernel_rfl
  have cr : Tryz.prog.cellsOf 28 = 1 := by kernel_rfl
  have c9 : Tryz.prog.cellsOf 9 = 1 := by kernel_rfl
  have co : Tryz.prog.cellsOf 30 = 3 := by kernel_rfl
  obtain ⟨xs, m, _, hx, hl, hlen, hf⟩ := DataW.trod_struct Tryz.underlying30 h
  rw [co] at hl
  obtain ⟨v0, v1, v2, rfl⟩ := list3 hl
  obtain ⟨y0, y1, y2, rfl⟩ := list3 (show xs.length = 3 from hlen)
  have h0 := hf 0 _ rfl
  have h1 := hf 1 _ rfl
  have h2 := hf 2 _ rfl
  simp only [List.getElem?_cons_zero, List.getElem?_cons_succ] at h0 h1 h2
  obtain ⟨t, e0, x0, w0⟩ := DataW.trod_int Tryz.underlying3 h0
  obtain ⟨ln, e1, x1, hln⟩ := DataW.trod_string Tryz.underlying9 h1
  obtain ⟨d2, p2⟩ := y2
  obtain ⟨A, l, c, e2, hl1, hl2, hrd, hd, hall⟩ := open_rows (cells := rcells) (k := 4) (Φ := fun m d => Okm W m ∧ sizeR m.1 ≤ Rows.uptoBulk d) (fun _ => rfl) (by omega) Tryz.underlying28 (by kernel_rfl) (fun n cs d pl h => by
    obtain ⟨m, e, a, _, b⟩ := open_rec h
    exact ⟨m, e, a, b⟩) h2
  have inj : ∀ {a b : Value}, [a] = [b] → a = b := fun h => by injection h
  replace e0 := inj e0
  replace e1 := inj e1
  replace e2 := inj e2
  subst e0 e1 e2 x0 x1
  injection hx with hx _
  subst hx
  have hb : totalR l ≤ Rows.uptoBulk d2 := by
    refine recs_bulk ?_
    rcases hd with ⟨rfl, rfl⟩ | ⟨es, sp, rfl, he, hd⟩
    · exact .inl ⟨rfl, rfl⟩
    · exact .inr ⟨es, sp, rfl, he, bulk_recs es l he fun i hi hd' => (hd i hi hd').2⟩
  refine ⟨⟨t, ln.data.toList, l, A, c⟩, ?_, ⟨⟨rfl, hl1, hl2, hrd, fun m hm => (hall m hm).elim fun _ h => h.1⟩, ?_, w0⟩, ?_⟩
  · unfold ocells S8
    simp
  · show ln.data.toList.length ≤ maxLen
    have : ln.data.toList.length = ln.size := Array.length_toList
    omega
  · show totalR l + ln.data.toList.length ≤ _
    simp only [List.map_cons, List.map_nil, Rows.uptoBulk, Rows.uptoBulkAll]
    omega
theorem bulk_hops : ∀ (ds : List (DataW H)) (l : List HOp), ds.length = l.length → (∀ (i : Nat) (hi : i < l.length) (hd : i < ds.length), sizeO l[i] ≤ Rows.uptoBulk ds[i]) → totalO l + l.length ≤ Rows.uptoBulkAll ds + l.length
  | [], [], _, _ => by simp [totalO, Rows.uptoBulkAll]
  | d :: ds, x :: l, hl, h => by
    have h0 := h 0 (by simp) (by simp)
    simp only [List.getElem_cons_zero] at h0
    have h1 := bulk_hops ds l (by simpa using hl) (fun i hi hd => by
      have := h (i + 1) (by simp; omega) (by simp; omega)
      simpa using this)
    unfold totalO at h1 ⊢
    simp only [Rows.uptoBulkAll, List.map_cons, List.sum_cons, List.length_cons] at *
    omega
set_option maxRecDepth 100000 in
/-- A script as an argument. -/
theorem open_hops {W : World} {base : Nat} {v : Value} {d : DataW H} {p : List MemPlace}
    (hval : Value.okWide Tryz.prog W .any base 22 v) (h : DataW.Trod enc Tryz.prog W 0 (fun _ => true) true 22 v d p) :
    ∃ (A : Option Addr) (l : List HOp) (c : Nat), v = .slice A l.length c ∧ l.length ≤ c ∧ c ≤ maxLen ∧ Rd W W.heap.size A (flatO l) ∧ (∀ o ∈ l, OkO W o) ∧ totalO l ≤ Rows.uptoBulk d := by
  obtain ⟨A0, len, cap, rfl⟩ := okWide_slice Tryz.underlying22 hval
  obtain ⟨fuel, hf⟩ := h
  obtain ⟨A, l, c, hcs, h1, h2, h3, h4, h5⟩ := open_rows (cells := ocells) (k := 3) (Φ := fun o d => OkO W o ∧ sizeO o ≤ Rows.uptoBulk d) (fun _ => rfl) (by omega) Tryz.underlying22 (by kernel_rfl) (fun n cs d pl h => open_hop h) hf
  simp [Value.cells] at hcs
  obtain ⟨rfl, rfl, rfl⟩ := hcs
  refine ⟨_, l, _, rfl, h1, h2, h3, fun o ho => (h5 o ho).elim fun _ h => h.1, ?_⟩
  rcases h4 with ⟨rfl, rfl⟩ | ⟨es, sp, rfl, he, hd⟩
  · simp [totalO]
  · have := bulk_hops es l he fun i hi hd' => (hd i hi hd').2
    simp only [Rows.uptoBulk]
    omega
end
theorem flatO_len : ∀ l : List HOp, (flatO l).length = l.length * 3 := fun l => rows_len (cells := ocells) (k := 3) (fun _ => rfl) l
theorem cellsO {w : World} {b off : Nat} {l : List HOp} (hc : ∀ j u, (flatO l)[j]? = some u → w.cell? ⟨b, off + j, .none⟩ = some u) {k : Nat} (hk : k < l.length) :
    w.cell? ⟨b, off + k * 3, .none⟩ = some (.int .i64 (l[k]).kind) ∧ w.cell? ⟨b, off + k * 3 + 1, .none⟩ = some (.string ⟨(l[k]).term.toArray⟩) ∧ w.cell? ⟨b, off + k * 3 + 2, .none⟩ = some (.slice (l[k]).A (l[k]).ms.length (l[k]).c) := by
  have h := rows_at (cells := ocells) (k := 3) (fun _ => rfl) l k hk
  refine ⟨hc _ _ (h 0 (by omega)), ?_, ?_⟩
  · rw [Nat.add_assoc]; exact hc _ _ (h 1 (by omega))
  · rw [Nat.add_assoc]; exact hc _ _ (h 2 (by omega))
theorem size_op {l : List HOp} {o : HOp} (h : o ∈ l) : sizeO o ≤ totalO l := by
  obtain ⟨a, b, rfl⟩ := List.append_of_mem h
  simp only [totalO, List.map_append, List.map_cons, List.sum_append, List.sum_cons]
  omega
end Go.Proofs.YtkgmcabamhpjhaaGreat.HdOpen
