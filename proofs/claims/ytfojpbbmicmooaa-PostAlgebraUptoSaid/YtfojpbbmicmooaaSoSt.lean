/- slices.Sort at uint64: what pdqsort's loop keeps, as plain facts on arrays; the world of its row with new blocks behind ('At'). No conditions. -/
import Derived.Test.YtfojpbbmicmooaaSoKit
namespace Go.Proofs.Ytfojpbbmicmooaa.SoSt
open Go Go.RowKit Go.Sort SoKit

theorem lt_t {x y : Int} : ltInt x y = true ↔ x < y := by unfold ltInt; rw [decide_eq_true_iff]
theorem lt_f {x y : Int} : ltInt x y = false ↔ y ≤ x := by unfold ltInt; rw [decide_eq_false_iff_not]; omega
/-- The part that is left to be sorted, and what comes of sorting it. -/
structure St (a0 b0 : Nat) (d0 : Array Int) (a b : Nat) (dk : Array Int) : Prop where
  ge : a0 ≤ a
  le : a ≤ b
  hi : b ≤ b0
  top : b0 ≤ d0.size
  size : dk.size = d0.size
  below : Go.Sort.Below ltInt a b dk
  fin : ∀ d'', PermIn a b dk d'' → SortedIn ltInt a b d'' → PermIn a0 b0 d0 d'' ∧ SortedIn ltInt a0 b0 d''
theorem St.start {a b : Nat} {d : Array Int} (h : a ≤ b) (hb : b ≤ d.size) (hB : Go.Sort.Below ltInt a b d) : St a b d a b d := ⟨Nat.le_refl _, h, Nat.le_refl _, hb, rfl, hB, fun _ h1 h2 => ⟨h1, h2⟩⟩
theorem St.perm {a0 b0 a b : Nat} {d0 dk dn : Array Int} (h : St a0 b0 d0 a b dk) (hp : PermIn a b dk dn) : St a0 b0 d0 a b dn :=
  ⟨h.ge, h.le, h.hi, h.top, hp.1.trans h.size, h.below.permA permIn_all (by have := h.hi; have := h.top; rw [h.size]; omega) hp, fun d'' h1 h2 => h.fin d'' (permIn_trans _ _ _ _ _ hp h1) h2⟩
theorem join {a m b : Nat} {d : Array Int} (h1 : SortedIn ltInt a m d) (h2 : SortedIn ltInt (m + 1) b d) (h3 : ∀ t, a ≤ t → t < m → d[t]! ≤ d[m]!) (h4 : ∀ t, m < t → t < b → d[m]! ≤ d[t]!) : SortedIn ltInt a b d := by
  intro i j hi hij hj
  rw [lt_f]
  rcases Nat.lt_trichotomy j m with h | h | h
  · exact lt_f.1 (h1 i j hi hij h)
  · subst h; exact h3 i hi hij
  · rcases Nat.lt_trichotomy i m with g | g | g
    · have := h3 i hi g; have := h4 j h hj; omega
    · subst g; exact h4 j hij hj
    · exact lt_f.1 (h2 i j g hij hj)
/-- Equal ones are done with. -/
theorem St.eq {a0 b0 a b p mid : Nat} {d0 dk dn : Array Int} (h : St a0 b0 d0 a b dk) (ha : 0 < a) (hp1 : a ≤ p) (hp2 : p < b) (hl : ltInt dk[a - 1]! dk[p]! = false)
    (hm1 : a < mid) (hm2 : mid ≤ b) (hp : PermIn a b dk dn) (hlo : ∀ t, a ≤ t → t < mid → ltInt dk[p]! dn[t]! = false) (hhi : ∀ t, mid ≤ t → t < b → ltInt dk[p]! dn[t]! = true) : St a0 b0 d0 mid b dn := by
  have hs := h.size
  have h1 := h.hi
  have h2 := h.top
  have hB := (h.perm hp).below
  rw [lt_f] at hl
  have e1 : dn[a - 1]! = dk[a - 1]! := hp.2.1 _ (Or.inl (by omega))
  have hB' : ∀ i, a ≤ i → i < b → dn[a - 1]! ≤ dn[i]! := fun i h1 h2 => by
    rcases hB with h | h
    · omega
    · exact lt_f.1 (h i h1 h2)
  refine ⟨by have := h.ge; omega, hm2, h.hi, h.top, hp.1.trans hs, Or.inr fun i h3 h4 => ?_, fun d'' h3 h4 => ?_⟩
  · rw [lt_f]
    have := lt_t.1 (hhi i h3 h4)
    have := lt_f.1 (hlo (mid - 1) (by omega) (by omega))
    omega
  · have g1 : ∀ t, t < mid → d''[t]! = dn[t]! := fun t ht => h3.2.1 t (Or.inl ht)
    have g2 : ∀ t, mid ≤ t → t < b → dk[p]! < d''[t]! := permIn_all dn d'' mid b (fun x => dk[p]! < x) (by rw [hp.1, hs]; omega) h3 (fun t h5 h6 => lt_t.1 (hhi t h5 h6))
    refine h.fin d'' (permIn_trans _ _ _ _ _ hp (permIn_mono _ _ _ _ _ _ (by omega) (Nat.le_refl _) (by rw [hp.1, hs]; omega) h3)) fun i j hi hij hj => ?_
    rw [lt_f]
    by_cases hjm : j < mid
    · rw [g1 i (by omega), g1 j hjm]
      have := lt_f.1 (hlo i hi (by omega))
      have := hB' j (by omega) (by omega)
      omega
    · by_cases him : i < mid
      · rw [g1 i him]
        have := lt_f.1 (hlo i hi him)
        have := g2 j (by omega) hj
        omega
      · exact lt_f.1 (h4 i j (by omega) hij hj)
section
variable {a0 b0 a b mid : Nat} {P : Int} {d0 dk dn d1 : Array Int}
/-- Behind a partition: its left part may be sorted. -/
theorem St.belowL (h : St a0 b0 d0 a b dk) (hp : PermIn a b dk dn) (hm : mid < b) : Go.Sort.Below ltInt a mid dn := by
  rcases (h.perm hp).below with g | g
  · exact Or.inl g
  · exact Or.inr fun i h1 h2 => g i h1 (by omega)
theorem St.belowR (piv : dn[mid]! = P) (high : ∀ t, mid < t → t < b → ltInt dn[t]! P = false) : Go.Sort.Below ltInt (mid + 1) b dn :=
  Or.inr fun i h1 h2 => by rw [Nat.add_sub_cancel, piv]; exact high i (by omega) h2
/-- The left part is sorted: the right one is left. -/
theorem St.goL (h : St a0 b0 d0 a b dk) (hp : PermIn a b dk dn) (hm1 : a ≤ mid) (hm2 : mid < b) (piv : dn[mid]! = P) (low : ∀ t, a ≤ t → t < mid → ltInt dn[t]! P = true) (high : ∀ t, mid < t → t < b → ltInt dn[t]! P = false)
    (hq : PermIn a mid dn d1) (hs : SortedIn ltInt a mid d1) : St a0 b0 d0 (mid + 1) b d1 := by
  have h1 := h.hi
  have h2 := h.top
  have h3 := h.size
  have hdn : dn.size = d0.size := hp.1.trans h3
  have g1 : ∀ t, mid ≤ t → d1[t]! = dn[t]! := fun t ht => hq.2.1 t (Or.inr ht)
  have g2 : ∀ t, a ≤ t → t < mid → d1[t]! < P := permIn_all dn d1 a mid (fun x => x < P) (by omega) hq (fun t h5 h6 => lt_t.1 (low t h5 h6))
  have piv1 : d1[mid]! = P := by rw [g1 mid (Nat.le_refl _)]; exact piv
  refine ⟨by have := h.ge; omega, by omega, h.hi, h.top, hq.1.trans hdn, St.belowR piv1 fun t h5 h6 => by rw [g1 t (by omega)]; exact high t h5 h6, fun d'' h5 h6 => ?_⟩
  have g3 : ∀ t, t < mid + 1 → d''[t]! = d1[t]! := fun t ht => h5.2.1 t (Or.inl ht)
  have g4 : ∀ t, mid + 1 ≤ t → t < b → P ≤ d''[t]! := permIn_all d1 d'' (mid + 1) b (fun x => P ≤ x) (by rw [hq.1]; omega) h5 (fun t h7 h8 => by rw [g1 t (by omega)]; exact lt_f.1 (high t (by omega) h8))
  refine h.fin d'' (permIn_trans _ _ _ _ _ hp (permIn_trans _ _ _ _ _ (permIn_mono _ _ _ _ _ _ (Nat.le_refl _) (by omega) (by omega) hq) (permIn_mono _ _ _ _ _ _ (by omega) (Nat.le_refl _) (by rw [hq.1]; omega) h5))) (join (m := mid) ?_ h6 ?_ ?_)
  · intro i j hi hij hj
    rw [g3 i (by omega), g3 j (by omega)]
    exact hs i j hi hij hj
  · intro t h7 h8
    rw [g3 t (by omega), g3 mid (by omega), piv1]
    have := g2 t h7 h8; omega
  · intro t h7 h8
    rw [g3 mid (by omega), piv1]
    exact g4 t (by omega) h8
/-- The right part is sorted: the left one is left. -/
theorem St.goR (h : St a0 b0 d0 a b dk) (hp : PermIn a b dk dn) (hm1 : a ≤ mid) (hm2 : mid < b) (piv : dn[mid]! = P) (low : ∀ t, a ≤ t → t < mid → ltInt dn[t]! P = true) (high : ∀ t, mid < t → t < b → ltInt dn[t]! P = false)
    (hq : PermIn (mid + 1) b dn d1) (hs : SortedIn ltInt (mid + 1) b d1) : St a0 b0 d0 a mid d1 := by
  have h1 := h.hi
  have h2 := h.top
  have h3 := h.size
  have hdn : dn.size = d0.size := hp.1.trans h3
  have g1 : ∀ t, t < mid + 1 → d1[t]! = dn[t]! := fun t ht => hq.2.1 t (Or.inl ht)
  have g2 : ∀ t, mid + 1 ≤ t → t < b → P ≤ d1[t]! := permIn_all dn d1 (mid + 1) b (fun x => P ≤ x) (by omega) hq (fun t h5 h6 => lt_f.1 (high t (by omega) h6))
  have piv1 : d1[mid]! = P := by rw [g1 mid (by omega)]; exact piv
  refine ⟨h.ge, hm1, by omega, h.top, hq.1.trans hdn, ?_, fun d'' h5 h6 => ?_⟩
  · rcases h.belowL hp hm2 with g | g
    · exact Or.inl g
    · exact Or.inr fun i h5 h6 => by rw [g1 i (by omega), g1 (a - 1) (by omega)]; exact g i h5 h6
  have g3 : ∀ t, mid ≤ t → d''[t]! = d1[t]! := fun t ht => h5.2.1 t (Or.inr ht)
  have g4 : ∀ t, a ≤ t → t < mid → d''[t]! < P := permIn_all d1 d'' a mid (fun x => x < P) (by rw [hq.1]; omega) h5 (fun t h7 h8 => by rw [g1 t (by omega)]; exact lt_t.1 (low t h7 h8))
  refine h.fin d'' (permIn_trans _ _ _ _ _ hp (permIn_trans _ _ _ _ _ (permIn_mono _ _ _ _ _ _ (by omega) (Nat.le_refl _) (by omega) hq) (permIn_mono _ _ _ _ _ _ (Nat.le_refl _) (by omega) (by rw [hq.1]; omega) h5))) (join (m := mid) h6 ?_ ?_ ?_)
  · intro i j hi hij hj
    rw [g3 i (by omega), g3 j (by omega)]
    exact hs i j hi hij hj
  · intro t h7 h8
    rw [g3 mid (Nat.le_refl _), piv1]
    have := g4 t h7 h8; omega
  · intro t h7 h8
    rw [g3 mid (Nat.le_refl _), g3 t (by omega), piv1]
    exact g2 t (by omega) h8
end

/-! ### The world -/
/-- wr is w but for the row, which holds d, the count of draws, and new blocks. -/
def At (w : World) (blk off : Nat) (d : Array Int) (wr : World) : Prop := ∃ n os, wr = Sort.grow (RW w blk off n d) os
theorem at_self {w : World} {blk off : Nat} {d : Array Int} (h : Holds E64 w blk off d) : At w blk off d w := ⟨0, #[], by rw [rw_self h, grow_empty]⟩
theorem at_rw {w : World} {blk off n : Nat} {d : Array Int} : At w blk off d (RW w blk off n d) := ⟨n, #[], by rw [grow_empty]⟩
theorem at_trans {w w1 w2 : World} {blk off : Nat} {d d1 : Array Int} (hb : blk < w.heap.size) (hs : d1.size = d.size) (h : At w blk off d w1) (h1 : At w1 blk off d1 w2) : At w blk off d1 w2 := by
  obtain ⟨n, os, rfl⟩ := h
  obtain ⟨m, os', rfl⟩ := h1
  exact ⟨n + m, os ++ os', grow_step_grow _ _ _ _ _ _ _ _ _ _ hb hs⟩
theorem at_size {w w1 : World} {blk off : Nat} {d : Array Int} (h : At w blk off d w1) : w.heap.size ≤ w1.heap.size := by
  obtain ⟨n, os, rfl⟩ := h
  rw [size_grow, rw_size]; omega
theorem at_holds {w w1 : World} {blk off : Nat} {d0 d : Array Int} (hb : blk < w.heap.size) (hH : Holds E64 w blk off d0) (hs : d.size = d0.size) (h : At w blk off d w1) : Holds E64 w1 blk off d := by
  obtain ⟨n, os, rfl⟩ := h
  exact holds_grow _ _ _ _ _ _ (by rw [rw_size]; exact hb) (rw_holds hH hs)
theorem at_drewN {w w1 : World} {blk off : Nat} {d : Array Int} (q : Nat) (h : At w blk off d w1) : At w blk off d (w1.drewN q) := by
  obtain ⟨n, os, rfl⟩ := h
  exact ⟨n + q, os, by rw [← rw_drewN]; rfl⟩
/-- A world that only drew and grew. -/
theorem at_grown {w w1 : World} {blk off n : Nat} {d : Array Int} {os : Array Obj} (hb : blk < w.heap.size) (h : At w blk off d w1) : At w blk off d (Sort.grow (Sort.ahead w1 n) os) := by
  obtain ⟨m, os', rfl⟩ := h
  exact ⟨m + n, os' ++ os, by rw [ahead_grow, grow_grow, ← rw_drewN]; rfl⟩
end Go.Proofs.Ytfojpbbmicmooaa.SoSt
