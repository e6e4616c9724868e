/- ManifestKeeps over the program's manifests: what is handed in stays, what is answered is new memory. Condition: at most 2^47 - 4096 bytes of segments. -/
import Derived.Test.YtjninegpaoblfaaDoorMfAwake
import Derived.Test.YtjninegpaoblfaaDoorRegD
import Derived.Lib.QuietBelow
import Derived.BigQuiet
namespace Go.Proofs.YtjninegpaoblfaaDoor.MfKeepsP
open Go Go.RowKit Words AppN MfSpec MfMem RefMf RefMw RefMr MfAwake MfLaw RegD Tab

def s77 : Sg := ⟨77, 0, 0, 0⟩
theorem one_seg (x : Sg) (w : World) : ∀ j u, (flatS [x])[j]? = some u → (w.alloc (.cells (scells x).toArray 41)).cell? ((⟨w.heap.size, 0, none⟩ : Addr).add j) = some u := by
  intro j u hj
  rw [flatS_one] at hj
  rw [add_off, Nat.zero_add]
  unfold World.cell?
  rw [heap_alloc_new]
  simpa using hj
/-- 'append([]Seg{}, m.Segs...)': onto a literal of no cells, whatever was made beside it. -/
theorem app_one (X : World) (B g0 : Nat) (h0 : X.ownsRow B 41 4 (.slice (some ⟨g0, 0, none⟩) 0 0) 0 []) (hB : B ≤ X.heap.size) (n : Nat) (A : Option Addr) (c : Nat) (l : List Sg) (hn : n = l.length) (Br : Nat) (hr : Rd X Br A (flatS l)) (hw : n * 32 ≤ 140737488351232) :
    ∃ v1 X1, (Builtin.append_ #[23, 23] 23 #[.slice (some ⟨g0, 0, none⟩) 0 0, .slice A n c]).run Tryd.prog X = .ok v1 X1 ∧ X1.ownsRow B 41 4 v1 n (flatS l) ∧ X.grownBy X1 (some g0) := by
  obtain ⟨k0, ki, kz0, kz1, kz2⟩ := info_parts info_seg
  obtain ⟨v1, X1, h1, h2, h3, _⟩ := AppN.run_append_rd (P := Tryd.prog) X B 4 23 23 41 k0 (.agg #[.int .i64 0, .int .i64 0, .int .i64 0, .int .i64 0]) 32 Tryd.underlying23 ki kz0 kz1 kz2 rfl (by decide) _ 0 [] h0 Br A n c (flatS l) (by rw [flatS_len, hn]) hr (flatS_ones l) (by unfold maxLen; omega) (by omega) hB
  exact ⟨v1, X1, h1, by simpa using h2, h3⟩
/-- 'append(.., Seg{Id: 77})'. -/
theorem app_two (X : World) (B gl : Nat) (l : List Sg) (n : Nat) (hn : n = l.length) (v1 : Value) (h1 : X.ownsRow B 41 4 v1 n (flatS l)) (hB : B ≤ X.heap.size) (hg : X.heap[gl]? = some (.cells #[.int .i64 77, .int .i64 0, .int .i64 0, .int .i64 0] 41 (0, 0))) (hw : n * 32 ≤ 140737488351232) :
    ∃ A2 c2 X2, (Builtin.append_ #[23, 23] 23 #[v1, .slice (some ⟨gl, 0, none⟩) 1 1]).run Tryd.prog X = .ok (.slice A2 (n + 1) c2) X2 ∧ X2.ownsRow B 41 4 (.slice A2 (n + 1) c2) (n + 1) (flatS (l ++ [s77])) ∧ X.grownBy X2 v1.ownBlock ∧ n + 1 ≤ c2 ∧ c2 ≤ maxLen := by
  obtain ⟨k0, ki, kz0, kz1, kz2⟩ := info_parts info_seg
  obtain ⟨v2, X2, h2, h3, h4, _⟩ := run_append_own (P := Tryd.prog) X B 23 23 41 k0 (.agg #[.int .i64 0, .int .i64 0, .int .i64 0, .int .i64 0]) 4 32 Tryd.underlying23 ki kz0 kz1 kz2 rfl (by decide) v1 n _ h1 ⟨gl, 0, none⟩ 1 1 (flatS [s77]) (by simp [flatS, scells]) (by
    intro j u hj
    rw [add_off, Nat.zero_add]
    rw [flatS_one] at hj
    unfold World.cell?
    rw [hg]
    simpa [scells, s77] using hj) (flatS_ones _) (by unfold maxLen; omega) (by omega) hB
  have h5 : X2.ownsRow B 41 4 v2 (l ++ [s77]).length (flatS (l ++ [s77])) := by rw [flatS_append, List.length_append, ← hn]; exact h3
  obtain ⟨A2, c2, rfl, hs, _⟩ := own_sgs h5
  rw [List.length_append, List.length_singleton, ← hn] at *
  refine ⟨A2, c2, X2, h2, h5, h4, ?_, hs.cap⟩
  exact hs.le
theorem emp_own (w : World) : (w.alloc (.cells #[] 41)).ownsRow w.heap.size 41 4 (.slice (some ⟨w.heap.size, 0, none⟩) 0 0) 0 [] :=
  World.ownsRow_lit (base := w.heap.size) (e := 41) (size := 4) w #[] 0 (Nat.le_refl _) (by unfold maxLen; omega) rfl

/-- Only the row of v has changed since w0; it still is a row of its own. -/
structure Own1 (w0 : World) (base : Nat) (e : TypeId) (size : Nat) (v : Value) (n : Nat) (wr : World) : Prop where
  os : wr.os = w0.os
  tape : wr.tape = w0.tape
  output : wr.output = w0.output
  size_ : wr.heap.size = w0.heap.size
  oth : ∀ i, v.ownBlock ≠ some i → wr.heap[i]? = w0.heap[i]?
  own : ∃ xs, wr.ownsRow base e size v n xs
theorem Own1.refl {w0 : World} {base n size : Nat} {e : TypeId} {v : Value} {xs : List Value} (h : w0.ownsRow base e size v n xs) : Own1 w0 base e size v n w0 := ⟨rfl, rfl, rfl, rfl, fun _ _ => rfl, xs, h⟩
theorem Own1.below {w0 wr : World} {base n size : Nat} {e : TypeId} {v : Value} (h : Own1 w0 base e size v n wr) {B : Nat} (hB : ∀ q, v.ownBlock = some q → B ≤ q) : Below B w0 wr :=
  ⟨h.os, h.tape, h.output, Nat.le_of_eq h.size_.symm, fun i hi => h.oth i (fun e => by have := hB i e; omega)⟩
/-- A store into it. -/
theorem Own1.set {w0 wr : World} {base n size g c : Nat} {e : TypeId} (h : Own1 w0 base e size (.slice (some ⟨g, 0, none⟩) n c) n wr) (j : Nat) (u : Value) : Own1 w0 base e size (.slice (some ⟨g, 0, none⟩) n c) n (wr.setCell ⟨g, j, none⟩ u) := by
  obtain ⟨xs, hx, hcs⟩ := h.own
  refine ⟨h.os, h.tape, h.output, by rw [World.size_setCell]; exact h.size_, fun i hi => (heap_setCell_other _ _ _ _ (fun e => hi (by rw [e]; rfl))).trans (h.oth i hi), ?_⟩
  rcases hcs with ⟨hv, _⟩ | ⟨g', cap, cur, hv, hb, hg, h1, h2, h3, h4⟩
  · cases hv
  · injection hv with hv _ hcap
    injection hv with hv
    injection hv with hv
    subst hv hcap
    refine ⟨(cur.setIfInBounds j u).toList.take (n * size), by
      rw [List.length_take]
      have : (cur.setIfInBounds j u).toList.length = cur.size := by simp
      rw [this, h3]
      exact Nat.min_eq_left (Nat.mul_le_mul_right _ h1), .inr ⟨g, c, cur.setIfInBounds j u, rfl, hb, heap_setCell_same wr g j cur e u hg, h1, h2, by simpa using h3, rfl⟩⟩
theorem Own1.at {w0 wr : World} {base n size g c : Nat} {e : TypeId} (h : Own1 w0 base e size (.slice (some ⟨g, 0, none⟩) n c) n wr) {j : Nat} (hj : j < n * size) : (∃ u, wr.cell? ⟨g, j, none⟩ = some u) ∧ wr.frozen? ⟨g, j, none⟩ = false := by
  obtain ⟨xs, hx, hcs⟩ := h.own
  rcases hcs with ⟨hv, _⟩ | ⟨g', cap, cur, hv, hb, hg, h1, h2, h3, h4⟩
  · cases hv
  · injection hv with hv _ hcap
    injection hv with hv
    injection hv with hv
    subst hv hcap
    have h5 : j < cur.size := by rw [h3]; exact Nat.lt_of_lt_of_le hj (Nat.mul_le_mul_right _ h1)
    exact ⟨⟨cur[j], cell_of_heap hg (Array.getElem?_eq_getElem h5)⟩, RefMr.frozen_of_heap hg⟩
theorem own_shape {w : World} {base n size : Nat} {e : TypeId} {v : Value} {xs : List Value} (h : w.ownsRow base e size v n xs) : ∃ A c, v = .slice A n c ∧ (0 < n → ∃ g, A = some ⟨g, 0, none⟩) := by
  rcases h.2 with ⟨rfl, hn⟩ | ⟨g, cap, cur, rfl, _⟩
  · exact ⟨none, 0, by rw [hn], fun h => by omega⟩
  · exact ⟨_, _, rfl, fun _ => ⟨g, rfl⟩⟩
theorem own_same {w w' : World} {base n size : Nat} {e : TypeId} {v : Value} {xs : List Value} (h : w.ownsRow base e size v n xs) (hq : ∀ q, v.ownBlock = some q → w'.heap[q]? = w.heap[q]?) : w'.ownsRow base e size v n xs :=
  ⟨h.1, h.2.imp id fun ⟨g, cap, cur, hv, hb, hg, h4⟩ => ⟨g, cap, cur, hv, hb, (hq g (by rw [hv]; rfl)).trans hg, h4⟩⟩
/-- What Read answers of a manifest, its number of segments a letter. -/
theorem rpost_n {w w' : World} {e : Ending} {m : Man} {n : Nat} (hn : n = m.segs.length) (h : RPost (0, m) w e w') : ∃ (A : Option Addr) (c : Nat), e = .returned (.tuple #[.agg #[.int .i64 m.wal, .int .i64 m.next, .int .u64 (m.seq.toNat : Int), .int .i64 m.mark, .slice A n c], .int .i64 0]) ∧
    w'.ownsRow w.heap.size 41 4 (.slice A n c) n (flatS m.segs) ∧ Below w.heap.size w w' := by
  obtain ⟨⟨M, A, k, c⟩, rfl, hm, hown, hb⟩ := h
  simp only at hm hown
  subst hm
  obtain ⟨A', c', hv, _⟩ := own_shape hown
  unfold slV at hv
  simp only [Value.slice.injEq] at hv
  obtain ⟨rfl, rfl, rfl⟩ := hv
  unfold slV at hown
  simp only at hown
  rw [← hn] at hown
  refine ⟨A, c, ?_, hown, hb⟩
  unfold aggM slV
  simp only
  rw [← hn]
  rfl
end Go.Proofs.YtjninegpaoblfaaDoor.MfKeepsP
