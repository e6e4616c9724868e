/- Slices of slices of bytes and of bools as arguments, opened, and what the bound on the bulk gives of them. No conditions. -/
import Derived.Test.YtjninegpaoblfaaGreatDoorOpens
import Derived.Deep.Slices
namespace Go.Proofs.YtjninegpaoblfaaGreatDoor.Parts5
open Go Go.RowKit Go.WideShapes Go.ChangeShapes Words Ope Bulk

structure Part where
  A : Option Addr
  c : Nat
  l : List UInt8
def SV (p : Part) : Value := .slice p.A p.l.length p.c
def Good (w : World) (B : Nat) (p : Part) : Prop := Rd w B p.A (p.l.map B8) ∧ p.l.length ≤ p.c ∧ p.c ≤ maxLen
def all (ps : List Part) : List UInt8 := ps.flatMap (·.l)
theorem all_snoc {ps : List Part} {k : Nat} (h : k < ps.length) : all (ps.take (k + 1)) = all (ps.take k) ++ ps[k].l := by
  rw [List.take_succ_eq_append_getElem h, all, List.flatMap_append]
  simp [all]
theorem take_len (ps : List Part) (k : Nat) : (all (ps.take k)).length ≤ (all ps).length := by
  conv => rhs; rw [← List.take_append_drop k ps, all, List.flatMap_append, List.length_append]
  exact Nat.le_add_right _ _

section
variable {H : Type} {enc : TypeId × Value → H} {P : Program}
/-- What a slice of slices of bytes reads as, for the bound on the arguments' bulk. -/
def PartsD (d : DataW H) (ps : List Part) : Prop := (d = .nil ∧ ps = []) ∨ ∃ (ds : List (DataW H)) (sp : List (DataW H)), d = .slice ds sp ∧ ds.length = ps.length ∧ ∀ (i : Nat) (hi : i < ps.length) (hd : i < ds.length), Lits .u8 ds[i] (ps[i].l.map fun x => (x.toNat : Int))

theorem bulk_len1 {d : DataW H} {zs : List Int} (h : Lits .u8 d zs) : zs.length + 1 ≤ Rows.uptoBulk d := by
  rcases h with ⟨rfl, rfl⟩ | ⟨sp, rfl⟩
  · simp [Rows.uptoBulk]
  · have := length_le (H := H) (lits .u8 zs)
    simp only [lits, List.length_map] at this
    simp only [Rows.uptoBulk, lits]
    omega
theorem bulk_all : ∀ (ds : List (DataW H)) (ps : List Part), ds.length = ps.length → (∀ (i : Nat) (hi : i < ps.length) (hd : i < ds.length), Lits .u8 ds[i] (ps[i].l.map fun x => (x.toNat : Int))) → (all ps).length + ps.length ≤ Rows.uptoBulkAll ds
  | [], [], _, _ => by simp [all, Rows.uptoBulkAll]
  | d :: ds, p :: ps, hl, h => by
    have h0 := h 0 (by simp) (by simp)
    simp only [List.getElem_cons_zero] at h0
    have h1 := bulk_len1 h0
    rw [List.length_map] at h1
    have h2 := bulk_all ds ps (by simpa using hl) (fun i hi hd => by
      have := h (i + 1) (by simp; omega) (by simp; omega)
      simpa using this)
    have e : (all (p :: ps)).length = p.l.length + (all ps).length := by simp [all]
    simp only [Rows.uptoBulkAll, List.length_cons, e] at *
    omega

theorem bulk_parts {d : DataW H} {ps : List Part} (h : PartsD d ps) : (all ps).length + ps.length ≤ Rows.uptoBulk d := by
  rcases h with ⟨rfl, rfl⟩ | ⟨ds, sp, rfl, hl, h⟩
  · simp [all]
  · have h1 := bulk_all ds ps hl h
    simp only [Rows.uptoBulk]
    omega

theorem open_part {e e2 : TypeId} (he : P.underlying e = some (.slice e2)) (he2 : P.underlying e2 = some (.int .u8)) (hce2 : P.cellsOf e2 = 1) {W : World} {n : Nat} {v : Value} {d : DataW H} {pl : List MemPlace}
    (hf : DataW.trod enc P W 0 (fun _ => true) true n e [v] = some (d, pl)) : ∃ q : Part, v = SV q ∧ Parts5.Good W W.heap.size q ∧ Lits .u8 d (q.l.map fun x => (x.toNat : Int)) := by
  rcases open_ints he he2 hce2 hf with ⟨hcs, hx⟩ | ⟨a, len, cap, zs, hcs, _, hl, hm, hz, hx, hcell, hwz⟩
  · simp only [List.cons.injEq, and_true] at hcs
    simp only [Prod.mk.injEq] at hx
    obtain ⟨rfl, rfl⟩ := hx
    subst hcs
    exact ⟨⟨none, 0, []⟩, rfl, ⟨Rd.nil_, Nat.le_refl _, Nat.zero_le _⟩, .inl ⟨rfl, rfl⟩⟩
  · simp only [List.cons.injEq, and_true] at hcs
    simp only [Prod.mk.injEq] at hx
    obtain ⟨rfl, rfl⟩ := hx
    subst hcs
    simp only [if_true] at hz
    have hlen : (zs.take len).length = len := by simp; omega
    have e1 : ((zs.take len).map fun x => UInt8.ofNat x.toNat).map (fun x => (x.toNat : Int)) = zs.take len := by
      rw [List.map_map]
      conv => rhs; rw [← List.map_id (zs.take len)]
      exact List.map_congr_left fun x hx => u8_of_wf (hwz x (List.mem_of_mem_take hx))
    have e2 : ((zs.take len).map fun x => UInt8.ofNat x.toNat).map B8 = (zs.take len).map (Value.int .u8) := by
      rw [List.map_map]
      exact List.map_congr_left fun x hx => by show Value.int .u8 _ = _; rw [u8_of_wf (hwz x (List.mem_of_mem_take hx))]
    refine ⟨⟨some a, cap, (zs.take len).map fun x => UInt8.ofNat x.toNat⟩, ?_, ⟨?_, ?_, hm⟩, ?_⟩
    · unfold SV
      rw [List.length_map, hlen]
    · show Rd W W.heap.size (some a) _
      rw [e2]
      intro hn
      rw [List.length_map, hlen] at hn
      obtain ⟨b, off, rfl, hc'⟩ := ints_at hcell (by omega)
      refine ⟨b, off, rfl, World.block_lt_of_cell? W _ (hc' 0 (by omega)), fun j u hu => ?_⟩
      rw [List.getElem?_map, List.getElem?_take] at hu
      split at hu
      · have hj : j < zs.length := by omega
        rw [hc' j hj]
        simp [List.getElem?_eq_getElem hj] at hu
        subst hu
        simp [List.getD, hj]
      · simp at hu
    · show (List.map _ _).length ≤ cap
      rw [List.length_map, hlen]
      exact hl
    · show Lits .u8 _ (List.map _ (List.map _ _))
      rw [e1]
      exact .inr ⟨_, rfl⟩

theorem vals_at {w : World} {a : Addr} {m : Nat} {V : Nat → Value} (h : ∀ i, i < m → w.cell? (a.add i) = some (V i)) (hp : 0 < m) :
    ∃ b off, a = ⟨b, off, none⟩ ∧ ∀ j, j < m → w.cell? ⟨b, off + j, none⟩ = some (V j) := by
  obtain ⟨b, off, spot⟩ := a
  have hspot : spot = none := by simpa [Addr.add] using World.cell?_spot (h 0 hp)
  subst hspot
  exact ⟨b, off, rfl, fun j hj => by rw [← Go.WideShapes.add_plain]; exact h j hj⟩

theorem open_u8ss {t e e2 : TypeId} (ht : P.underlying t = some (.slice e)) (he : P.underlying e = some (.slice e2)) (he2 : P.underlying e2 = some (.int .u8)) (hce : P.cellsOf e = 1) (hce2 : P.cellsOf e2 = 1) {W : World} {base : Nat} {v : Value} {d : DataW H} {p : List MemPlace}
    (hval : Value.okWide P W .any base t v) (h : DataW.Trod enc P W 0 (fun _ => true) true t v d p) (hlt : ∀ x ∈ p, x.block < W.heap.size) :
    ∃ (A : Option Addr) (ps : List Part) (c : Nat), v = .slice A ps.length c ∧ ps.length ≤ c ∧ c ≤ maxLen ∧ Rd W W.heap.size A (ps.map SV) ∧ (∀ q ∈ ps, Parts5.Good W W.heap.size q) ∧ PartsD d ps := by
  obtain ⟨A, len, cap, rfl⟩ := okWide_slice ht hval
  obtain ⟨fuel, hf⟩ := h
  rcases Deep.open_slice1 ht hce hf with ⟨hcs, hx⟩ | ⟨a, len', cap', m, n, V, D, Pl, hcs, _, hl, hm, hz, hx, hel⟩
  · simp [Value.cells] at hcs
    obtain ⟨rfl, rfl, rfl⟩ := hcs
    simp only [Prod.mk.injEq] at hx
    obtain ⟨rfl, rfl⟩ := hx
    exact ⟨none, [], 0, rfl, by simp, by unfold maxLen; omega, Rd.nil_, (fun _ h => by cases h), .inl ⟨rfl, rfl⟩⟩
  · simp [Value.cells] at hcs
    obtain ⟨rfl, rfl, rfl⟩ := hcs
    simp only [Prod.mk.injEq] at hx
    obtain ⟨rfl, rfl⟩ := hx
    simp only [if_true] at hz
    subst hz
    have key : ∀ i, i < len → ∃ q : Part, V i = SV q ∧ Parts5.Good W W.heap.size q ∧ Lits .u8 (D i) (q.l.map fun x => (x.toNat : Int)) := fun i hi => open_part he he2 hce2 (hel i (by omega)).2
    have : Inhabited Part := ⟨⟨none, 0, []⟩⟩
    obtain ⟨g, hg⟩ := Deep.choose_lt key
    refine ⟨some a, (List.range len).map g, m, by simp, by simpa using hl, hm, ?_, ?_, .inr ⟨_, _, rfl, by simp, ?_⟩⟩
    · intro hn
      simp only [List.length_map, List.length_range] at hn
      obtain ⟨b, off, rfl, hc⟩ := vals_at (fun i hi => (hel i hi).1) (by omega)
      refine ⟨b, off, rfl, World.block_lt_of_cell? W _ (hc 0 (by omega)), fun j u hu => ?_⟩
      have hj : j < len := by
        have := (List.getElem?_eq_some_iff.1 hu).1
        simpa using this
      rw [hc j (by omega), (hg j hj).1]
      simpa [hj] using hu
    · intro q hq
      simp only [List.mem_map, List.mem_range] at hq
      obtain ⟨i, hi, rfl⟩ := hq
      exact (hg i hi).2.1
    · intro i hi hd
      simp only [List.length_map, List.length_range] at hi
      simpa using (hg i hi).2.2
end


section
variable {H : Type} {enc : TypeId × Value → H} {P : Program}
theorem open_bools {t e : TypeId} (ht : P.underlying t = some (.slice e)) (he : P.underlying e = some .bool) (hce : P.cellsOf e = 1) {W : World} {base : Nat} {v : Value} {d : DataW H} {p : List MemPlace}
    (hval : Value.okWide P W .any base t v) (h : DataW.Trod enc P W 0 (fun _ => true) true t v d p) :
    ∃ (A : Option Addr) (bs : List Bool) (c : Nat), v = .slice A bs.length c ∧ bs.length ≤ c ∧ c ≤ maxLen ∧ Rd W W.heap.size A (bs.map Value.bool) := by
  obtain ⟨A, len, cap, rfl⟩ := okWide_slice ht hval
  obtain ⟨fuel, hf⟩ := h
  rcases Deep.open_slice1 ht hce hf with ⟨hcs, hx⟩ | ⟨a, len', cap', m, n, V, D, Pl, hcs, _, hl, hm, hz, hx, hel⟩
  · simp [Value.cells] at hcs
    obtain ⟨rfl, rfl, rfl⟩ := hcs
    exact ⟨none, [], 0, rfl, by simp, by unfold maxLen; omega, Rd.nil_⟩
  · simp [Value.cells] at hcs
    obtain ⟨rfl, rfl, rfl⟩ := hcs
    simp only [if_true] at hz
    subst hz
    have key : ∀ i, i < len → ∃ b : Bool, V i = .bool b := fun i hi => by
      obtain ⟨b, hb, _⟩ := DataW.trod_bool he (hel i (by omega)).2
      exact ⟨b, by simpa using hb⟩
    obtain ⟨g, hg⟩ := Deep.choose_lt key
    refine ⟨some a, (List.range len).map g, m, by simp, by simpa using hl, hm, ?_⟩
    intro hn
    simp only [List.length_map, List.length_range] at hn
    obtain ⟨b, off, rfl, hc⟩ := vals_at (fun i hi => (hel i hi).1) (by omega)
    refine ⟨b, off, rfl, World.block_lt_of_cell? W _ (hc 0 (by omega)), fun j u hu => ?_⟩
    have hj : j < len := by
      have := (List.getElem?_eq_some_iff.1 hu).1
      simpa using this
    rw [hc j (by omega), hg j hj]
    simpa [hj] using hu
end
end Go.Proofs.YtjninegpaoblfaaGreatDoor.Parts5
