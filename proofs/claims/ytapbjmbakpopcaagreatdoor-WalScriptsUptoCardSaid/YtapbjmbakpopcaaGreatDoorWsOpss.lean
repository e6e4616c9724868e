/- A crash (a number and a list of numbers) as an argument, opened. No conditions. · A script of WalScripts as an argument, opened: a slice of calls, each with its numbers, its bytes and what is kept; and what the bound on the bulk gives of it. No conditions. -/
import Derived.Test.YtapbjmbakpopcaaGreatDoorOpens
import Derived.Test.YtapbjmbakpopcaaGreatDoorWords
import Derived.Test.YtapbjmbakpopcaaGreatDoorPdRes
import Derived.Test.YtapbjmbakpopcaaGreatDoorWlLaw
namespace Go.Proofs.YtapbjmbakpopcaaGreatDoor.WlOpen
open Go Go.RowKit Go.WideShapes Go.ChangeShapes Words Ope PdRes WlLaw

theorem wf_bounds {x : Int} (h : (Lit.int .i64 x).wf = true) : In64 x := by
  simp only [Lit.wf, Bool.and_eq_true, decide_eq_true_eq] at h
  rw [show IntKind.i64.min = -9223372036854775808 from rfl, show IntKind.i64.max = 9223372036854775807 from rfl] at h
  exact h
section
variable {H : Type} {enc : TypeId × Value → H}
theorem open_i64s {W : World} {n : Nat} {v : Value} {d : DataW H} {pl : List MemPlace}
    (hf : DataW.trod enc Tryz.prog W 0 (fun _ => true) true n 39 [v] = some (d, pl)) : ∃ (A : Option Addr) (l : List Int) (c : Nat), v = .slice A l.length c ∧ l.length ≤ c ∧ c ≤ maxLen ∧ Rd W W.heap.size A (l.map I64) ∧ ∀ x ∈ l, In64 x := by
  rcases open_ints Tryz.underlying39 Tryz.underlying3 (by kernel_rfl) hf with ⟨hcs, _⟩ | ⟨a, len, cap, zs, hcs, _, hl, hm, hz, _, hcell, hwz⟩
  · simp only [List.cons.injEq, and_true] at hcs
    subst hcs
    exact ⟨none, [], 0, rfl, Nat.le_refl _, by unfold maxLen; omega, Rd.nil_, fun x hx => by cases hx⟩
  · simp only [List.cons.injEq, and_true] at hcs
    subst hcs
    simp only [if_true] at hz
    have hlen : (zs.take len).length = len := by simp; omega
    refine ⟨some a, zs.take len, cap, by rw [hlen], by rw [hlen]; exact hl, hm, fun hn => ?_, fun x hx => wf_bounds (hwz x (List.mem_of_mem_take hx))⟩
    rw [List.length_map, hlen] at hn
    obtain ⟨b, off, rfl, hc'⟩ := ints_at hcell (by omega)
    refine ⟨b, off, rfl, World.block_lt_of_cell? W _ (hc' 0 (by omega)), fun j u hu => ?_⟩
    rw [List.getElem?_map, List.getElem?_take] at hu
    split at hu
    · have hj : j < zs.length := by omega
      rw [hc' j hj]
      simp [List.getElem?_eq_getElem hj] at hu
      subst hu
      simp [List.getD, hj, I64]
    · simp at hu
theorem list2 {α : Type} {l : List α} (h : l.length = 2) : ∃ a b, l = [a, b] := by
  match l, h with
  | [a, b], _ => exact ⟨a, b, rfl⟩
end
end Go.Proofs.YtapbjmbakpopcaaGreatDoor.WlOpen

namespace Go.Proofs.YtapbjmbakpopcaaGreatDoor.WsOps
open Go Go.RowKit Go.WideShapes Go.ChangeShapes Words Ope Bulk PdRes WlOpen WlLaw

structure WOp where
  kind : Int
  n : Int
  first : Int
  data : List UInt8
  keep : List Int
def opC (q : WOp) (Ad : Option Addr) (cd : Nat) (Ak : Option Addr) (ck : Nat) : Array Value := #[.int .i64 q.kind, .int .i64 q.n, .int .i64 q.first, .slice Ad q.data.length cd, .slice Ak q.keep.length ck]
structure PO where
  q : WOp
  Ad : Option Addr
  cd : Nat
  Ak : Option Addr
  ck : Nat
/-- What is known of a call's slices, of whatever number. -/
structure Raw (w : World) (o : PO) : Prop where
  d : Rd w w.heap.size o.Ad (o.q.data.map B8)
  dc : o.q.data.length ≤ o.cd
  dm : o.cd ≤ maxLen
  k : Rd w w.heap.size o.Ak (o.q.keep.map I64)
  kc : o.q.keep.length ≤ o.ck
  km : o.ck ≤ maxLen
  ks : ∀ x ∈ o.q.keep, -9223372036854775808 ≤ x ∧ x ≤ 9223372036854775807
  n1 : -9223372036854775808 ≤ o.q.n
  n2 : o.q.n ≤ 9223372036854775807
  o1 : -9223372036854775808 ≤ o.q.first
  o2 : o.q.first ≤ 9223372036854775807
theorem wf_bounds {x : Int} (h : (Lit.int .i64 x).wf = true) : -9223372036854775808 ≤ x ∧ x ≤ 9223372036854775807 := by
  simp only [Lit.wf, Bool.and_eq_true, decide_eq_true_eq] at h
  rw [show IntKind.i64.min = -9223372036854775808 from rfl, show IntKind.i64.max = 9223372036854775807 from rfl] at h
  exact h
section
variable {H : Type} {enc : TypeId × Value → H}
theorem list5 {α : Type} {l : List α} (h : l.length = 5) : ∃ a b c d e, l = [a, b, c, d, e] := by
  match l, h with
  | [a, b, c, d, e], _ => exact ⟨a, b, c, d, e, rfl⟩

set_option maxRecDepth 100000 in
theorem open_op {W : World} {n : Nat} {cs : List Value} {d : DataW H} {pl : List MemPlace} (h : DataW.trod enc Tryz.prog W 0 (fun _ => true) true n 41 cs = some (d, pl)) :
    ∃ o : PO, cs = (opC o.q o.Ad o.cd o.Ak o.ck).toList ∧ Raw W o ∧ o.q.data.length + 1 ≤ Rows.uptoBulk d := by
  have c3 : Tryz.prog.cellsOf 3 = 1 := by kernel_rfl
  have c30 : Tryz.prog.cellsOf 38 = 1 := by kernel_rfl
  have c31 : Tryz.prog.cellsOf 39 = 1 := by kernel_rfl
  have c33 : Tryz.prog.cellsOf 41 = 5 := by kernel_rfl
  obtain ⟨xs, m, _, hx, hl, hlen, hf⟩ := DataW.trod_struct Tryz.underlying41 h
  rw [c33] at hl
  obtain ⟨v0, v1, v2, v3, v4, rfl⟩ := list5 hl
  obtain ⟨y0, y1, y2, y3, y4, rfl⟩ := list5 (show xs.length = 5 from hlen)
  have h0 := hf 0 _ rfl
  have h1 := hf 1 _ rfl
  have h2 := hf 2 _ rfl
  have h3 := hf 3 _ rfl
  have h4 := hf 4 _ rfl
  simp only [c3, c30, c31, List.drop_zero, List.drop_succ_cons, List.take_succ_cons, List.take_zero, List.getElem?_cons_zero, List.getElem?_cons_succ] at h0 h1 h2 h3 h4
  obtain ⟨n0, e0, _, w0⟩ := DataW.trod_int Tryz.underlying3 h0
  obtain ⟨n1, e1, _, w1⟩ := DataW.trod_int Tryz.underlying3 h1
  obtain ⟨n2, e2, _, w2⟩ := DataW.trod_int Tryz.underlying3 h2
  obtain ⟨y30, y31⟩ := y3
  obtain ⟨y40, y41⟩ := y4
  obtain ⟨p5, e5, g5, b5⟩ := Parts5.open_part Tryz.underlying38 Tryz.underlying5 (by kernel_rfl) h3
  obtain ⟨A6, l6, k6, e6, g61, g62, g63, g64⟩ := open_i64s h4
  have inj : ∀ {a b : Value}, [a] = [b] → a = b := fun h => by injection h
  replace e0 := inj e0
  replace e1 := inj e1
  replace e2 := inj e2
  subst e0 e1 e2 e5 e6
  injection hx with hx _
  subst hx
  refine ⟨⟨⟨n0, n1, n2, p5.l, l6⟩, p5.A, p5.c, A6, k6⟩, ?_, ⟨g5.1, g5.2.1, g5.2.2, g63, g61, g62, g64, (wf_bounds w1).1, (wf_bounds w1).2, (wf_bounds w2).1, (wf_bounds w2).2⟩, ?_⟩
  · unfold opC
    simp [Parts5.SV]
  · have hb := Parts5.bulk_len1 b5
    rw [List.length_map] at hb
    simp only [List.map_cons, List.map_nil, Rows.uptoBulk, Rows.uptoBulkAll]
    omega

def total (l : List PO) : Nat := (l.map fun o => o.q.data.length).sum
def OpsAt (w : World) (A : Option Addr) (l : List PO) : Prop := 0 < l.length → ∃ b off, A = some ⟨b, off, none⟩ ∧ b < w.heap.size ∧ ∀ i o, l[i]? = some o → ∀ j u, (opC o.q o.Ad o.cd o.Ak o.ck)[j]? = some u → w.cell? ⟨b, off + i * 5 + j, none⟩ = some u
def OpsD (d : DataW H) (l : List PO) : Prop := total l + l.length ≤ Rows.uptoBulk d
theorem bulk_ops : ∀ (ds : List (DataW H)) (l : List PO), ds.length = l.length → (∀ (i : Nat) (hi : i < l.length) (hd : i < ds.length), l[i].q.data.length + 1 ≤ Rows.uptoBulk ds[i]) → total l + l.length ≤ Rows.uptoBulkAll ds
  | [], [], _, _ => by simp [total, Rows.uptoBulkAll]
  | d :: ds, o :: l, hl, h => by
    have h0 := h 0 (by simp) (by simp)
    simp only [List.getElem_cons_zero] at h0
    have h1 := bulk_ops ds l (by simpa using hl) (fun i hi hd => by
      have := h (i + 1) (by simp; omega) (by simp; omega)
      simpa using this)
    unfold total at h1 ⊢
    simp only [Rows.uptoBulkAll, List.map_cons, List.sum_cons, List.length_cons] at *
    omega

set_option maxRecDepth 100000 in
theorem open_ops {W : World} {base : Nat} {v : Value} {d : DataW H} {p : List MemPlace}
    (hval : Value.okWide Tryz.prog W .any base 22 v) (h : DataW.Trod enc Tryz.prog W 0 (fun _ => true) true 22 v d p) :
    ∃ (A : Option Addr) (l : List PO) (c : Nat), v = .slice A l.length c ∧ l.length ≤ c ∧ c ≤ maxLen ∧ OpsAt W A l ∧ (∀ o ∈ l, Raw W o) ∧ OpsD d l := by
  obtain ⟨A, len, cap, rfl⟩ := okWide_slice Tryz.underlying22 hval
  obtain ⟨fuel, hf⟩ := h
  have c33 : Tryz.prog.cellsOf 41 = 5 := by kernel_rfl
  rcases Deep.open_slice Tryz.underlying22 hf with ⟨hcs, hx⟩ | ⟨a, len', cap', m, n, D, Pl, hcs, _, hl, hm, hz, hx, hel⟩
  · simp [Value.cells] at hcs
    obtain ⟨rfl, rfl, rfl⟩ := hcs
    simp only [Prod.mk.injEq] at hx
    obtain ⟨rfl, rfl⟩ := hx
    exact ⟨none, [], 0, rfl, by simp, by unfold maxLen; omega, fun h => absurd h (by simp), (fun _ h => by cases h), by unfold OpsD; simp [total]⟩
  · simp [Value.cells] at hcs
    obtain ⟨rfl, rfl, rfl⟩ := hcs
    simp only [Prod.mk.injEq] at hx
    obtain ⟨rfl, rfl⟩ := hx
    simp only [if_true] at hz
    subst hz
    have key : ∀ i, i < len → ∃ o : PO, (∀ j, j < 5 → W.cell? ((a.add (i * 5)).add j) = (opC o.q o.Ad o.cd o.Ak o.ck)[j]?) ∧ Raw W o ∧ o.q.data.length + 1 ≤ Rows.uptoBulk (D i) := fun i hi => by
      obtain ⟨cs', h1, h2⟩ := hel i (by omega)
      rw [c33] at h1
      obtain ⟨_, hlen, hcell⟩ := World.cells?_some h1
      obtain ⟨o, ho, hr⟩ := open_op h2
      refine ⟨o, fun j hj => ?_, hr⟩
      rw [hcell j hj, ho, Array.getElem?_toList]
    have : Inhabited PO := ⟨⟨⟨0, 0, 0, [], []⟩, none, 0, none, 0⟩⟩
    obtain ⟨g, hg⟩ := Deep.choose_lt key
    have hb := bulk_ops ((List.range len).map D) ((List.range len).map g) (by simp) (fun i hi hd => by
      simp only [List.length_map, List.length_range] at hi
      simpa using (hg i hi).2.2)
    refine ⟨some a, (List.range len).map g, m, by simp, by simpa using hl, hm, fun hn => ?_, fun o ho => ?_, ?_⟩
    · simp only [List.length_map, List.length_range] at hn
      have h00 := (hg 0 hn).1 0 (by omega)
      have hspot : ∃ b off, a = ⟨b, off, none⟩ := by
        obtain ⟨b, off, spot⟩ := a
        have h1 : W.cell? ⟨b, off, spot⟩ = some (.int .i64 (g 0).q.kind) := by
          simp only [Nat.zero_mul] at h00
          have h2 := h00
          unfold Addr.add at h2
          simpa [opC] using h2
        have : spot = none := World.cell?_spot h1
        subst this
        exact ⟨b, off, rfl⟩
      obtain ⟨b, off, rfl⟩ := hspot
      have hc : ∀ i, i < len → ∀ j, j < 5 → W.cell? ⟨b, off + i * 5 + j, none⟩ = (opC (g i).q (g i).Ad (g i).cd (g i).Ak (g i).ck)[j]? := fun i hi j hj => by
        rw [← (hg i hi).1 j hj, add_off, add_off]
      refine ⟨b, off, rfl, ?_, fun i o hi j u hu => ?_⟩
      · have h1 := hc 0 hn 0 (by omega)
        have h2 : W.cell? ⟨b, off + 0 * 5 + 0, none⟩ = some (.int .i64 (g 0).q.kind) := h1.trans rfl
        exact World.block_lt_of_cell? W _ h2
      · have hil : i < len := by
          have := (List.getElem?_eq_some_iff.1 hi).1
          simpa using this
        have hjl : j < 5 := (Array.getElem?_eq_some_iff.1 hu).1
        have ho : o = g i := by
          rw [List.getElem?_map, List.getElem?_range hil] at hi
          simpa using hi.symm
        rw [hc i hil j hjl, ← ho]
        exact hu
    · simp only [List.mem_map, List.mem_range] at ho
      obtain ⟨i, hi, rfl⟩ := ho
      exact (hg i hi).2.1
    · have hbk : Rows.uptoBulkAll ((List.range len).map D) ≤ Rows.uptoBulk (DataW.slice ((List.range len).map D) ((List.range (m - len)).map fun j => D (len + j))) := by
        simp only [Rows.uptoBulk]; omega
      exact Nat.le_trans hb hbk
end
end Go.Proofs.YtapbjmbakpopcaaGreatDoor.WsOps

