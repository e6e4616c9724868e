/- slices.SortFunc of pairs of runes by the first: a permutation, in order. Conditions: the pairs lie in a row of the call's own; fewer than 2^62. -/
import Derived.Test.YtdmbgjpidlllcaaRqSortL
import Derived.Test.YtdmbgjpidlllcaaRxJoins
import Derived.Test.YtdmbgjpidlllcaaRqMems
import Derived.Shelf.SlSortCmp.WholeK
import Derived.Shelf.SlSortCmp.NoneTotal
import Derived.BigQuiet
namespace Go.Proofs.Ytdmbgjpidlllcaa.RqSort
open Go Go.RowKit Go.Shelf Words AppN RxMem RqPlain RqMem
open Go.Sort (putRow Holds PermIn SortedIn grow flatK get_flatK HoldsK putRowK)

def encP (x : Nat × Nat) : List Value := [R32 x.1, R32 x.2]
def cfP (x y : Nat × Nat) : Int := if x.1 < y.1 then -1 else if y.1 < x.1 then 1 else 0
theorem cells_map (l : List (Nat × Nat)) : (flatP l).map R32 = l.flatMap encP := by
  unfold flatP encP
  rw [List.map_flatMap]
  rfl
set_option maxHeartbeats 1600000 in
set_option maxRecDepth 100000 in
theorem nan_any (a : Int) (w : World) : Calls Try.prog 71 #[.int .i32 a] w fun e w' => e = .returned (.bool false) ∧ w' = w := by
  have d1 : (a != a) = false := by simp
  go_enter Try.func71, Try.ntmps71
  go_wp2
  go_ret
  exact ⟨rfl, rfl⟩
set_option maxHeartbeats 1600000 in
set_option maxRecDepth 100000 in
theorem compare_any (a b : Nat) (w : World) : Calls Try.prog 63 #[.int .i32 (a : Int), .int .i32 (b : Int)] w fun e w' => e = .returned (.int .i64 (cfP (a, 0) (b, 0))) ∧ w' = w := by
  have HN := fun x wz => nan_any x wz
  unfold cfP
  simp only
  by_cases h1 : a < b
  · rw [if_pos h1]
    have d1 : decide ((a : Int) < (b : Int)) = true := decide_eq_true (by omega)
    have d1n : decide (a < b) = true := decide_eq_true h1
    clear h1
    go_enter Try.func63, Try.ntmps63
    go_wp2_with (go_at_call 71; refine (HN _ _).mono ?_; rintro e w' ⟨rfl, rfl⟩)
    go_ret
    exact ⟨rfl, rfl⟩
  · rw [if_neg h1]
    have d1 : decide ((a : Int) < (b : Int)) = false := decide_eq_false (by omega)
    have d1n : decide (a < b) = false := decide_eq_false h1
    clear h1
    by_cases h2 : b < a
    · rw [if_pos h2]
      have d2 : decide ((b : Int) < (a : Int)) = true := decide_eq_true (by omega)
      have d2n : decide (b < a) = true := decide_eq_true h2
      clear h2
      go_enter Try.func63, Try.ntmps63
      go_wp2_with (go_at_call 71; refine (HN _ _).mono ?_; rintro e w' ⟨rfl, rfl⟩)
      go_ret
      exact ⟨rfl, rfl⟩
    · rw [if_neg h2]
      have d2 : decide ((b : Int) < (a : Int)) = false := decide_eq_false (by omega)
      have d2n : decide (b < a) = false := decide_eq_false h2
      clear h2
      go_enter Try.func63, Try.ntmps63
      go_wp2_with (go_at_call 71; refine (HN _ _).mono ?_; rintro e w' ⟨rfl, rfl⟩)
      go_ret
      exact ⟨rfl, rfl⟩
set_option maxHeartbeats 1600000 in
set_option maxRecDepth 100000 in
theorem closure_any (x y : Nat × Nat) (W : World) : Calls Try.prog 62 #[.agg #[R32 x.1, R32 x.2], .agg #[R32 y.1, R32 y.2]] W fun e w' => e = .returned (.int .i64 (cfP x y)) ∧ ∃ q os', w' = grow (W.drewN q) os' := by
  have HC := fun wz => compare_any x.1 y.1 wz
  have e1 : cfP (x.1, 0) (y.1, 0) = cfP x y := rfl
  rw [e1] at HC
  generalize cfP x y = r at *
  unfold R32
  clear e1
  go_enter Try.func62, Try.ntmps62
  go_wp2_with (go_at_call 63; refine (HC _).mono ?_; rintro e w' ⟨rfl, rfl⟩)
  go_ret
  exact ⟨rfl, 0, _, by rw [Sort.alloc_eq_grow, Sort.alloc_eq_grow, Sort.grow_grow]; rfl⟩
theorem lt_dec (x y : Nat × Nat) : ltOf cfP x y = decide (x.1 < y.1) := by
  unfold ltOf cfP
  by_cases h1 : x.1 < y.1
  · simp [h1]
  · by_cases h2 : y.1 < x.1 <;> simp [h1, h2]
theorem swoP : Go.Sort.SWO (ltOf cfP) where
  irrefl x := by rw [lt_dec]; simp
  trans x y z h1 h2 := by rw [lt_dec] at *; simp at *; omega
  ntrans x y z h1 h2 := by rw [lt_dec] at *; simp at *; omega
theorem flat_list (l : List (Nat × Nat)) : flatK encP 2 l.toArray = ((flatP l).map R32).toArray := by
  refine Array.ext (by simp [flatP_len]; omega) fun t h1 h2 => ?_
  have ht : t < l.length * 2 := by simpa using h1
  have e1 := get_flatK encP 2 l.toArray t (by simpa using ht)
  rw [getElem!_pos _ t h1] at e1
  rw [e1]
  have hj : t / 2 < l.length := by omega
  obtain ⟨f1, f2⟩ := flatP_at l (t / 2) hj
  have e2 : (l.toArray[t / 2]!) = l[t / 2] := by rw [getElem!_pos _ _ (by simpa using hj)]; simp
  rw [e2]
  rcases Nat.mod_two_eq_zero_or_one t with hm | hm
  · have ht2 : t = 2 * (t / 2) := by omega
    rw [hm]
    have f3 : (flatP l)[t]? = some (l[t / 2]).1 := by rw [← f1, ← ht2]
    have hl : t < (flatP l).length := by rw [flatP_len]; omega
    rw [List.getElem?_eq_getElem hl] at f3
    injection f3 with f3
    simp [encP, f3]
  · have ht2 : t = 2 * (t / 2) + 1 := by omega
    rw [hm]
    have f3 : (flatP l)[t]? = some (l[t / 2]).2 := by rw [← f2, ← ht2]
    have hl : t < (flatP l).length := by rw [flatP_len]; omega
    rw [List.getElem?_eq_getElem hl] at f3
    injection f3 with f3
    simp [encP, f3]
theorem holds_own {w : World} {base : Nat} {e : TypeId} {g n cap : Nat} {l : List (Nat × Nat)} (h : w.ownsRow base e 2 (.slice (some ⟨g, 0, none⟩) n cap) n ((flatP l).map R32)) : HoldsK encP 2 w g 0 l.toArray := by
  intro j hj
  rw [flat_list] at hj ⊢
  have hj' : j < ((flatP l).map R32).length := by simpa using hj
  have hc := h.cells (g := g) rfl j (((flatP l).map R32)[j]) (List.getElem?_eq_getElem hj')
  rw [add_off] at hc
  refine ⟨by rw [hc, getElem!_pos _ j (by simpa using hj)]; simp, ?_⟩
  rcases h.2 with ⟨e1, _⟩ | ⟨g', cap', cur, e1, hb, hg, _⟩
  · cases e1
  · injection e1 with e1 _ _
    injection e1 with e1
    injection e1 with e1
    subst e1
    exact frozen_of_row _ _ _ _ _ hg
theorem own_put {w : World} {base : Nat} {e : TypeId} {g n cap q : Nat} {xs ys : List Value} (h : w.ownsRow base e 2 (.slice (some ⟨g, 0, none⟩) n cap) n xs) (hy : ys.length = n * 2) :
    (putRow id (Sort.ahead w q) g 0 ys.toArray).ownsRow base e 2 (.slice (some ⟨g, 0, none⟩) n cap) n ys := by
  rcases h.2 with ⟨e0, _⟩ | ⟨g', cap', cur, e0, hb, hg, hn, hm, hs, ht⟩
  · cases e0
  · injection e0 with e1 _ e3
    injection e1 with e1
    injection e1 with e1
    subst e1; subst e3
    refine ⟨hy, .inr ⟨g, cap, Go.Sort.putCells id 0 ys.toArray cur, rfl, hb, ?_, hn, hm, by simpa [Go.Sort.putCells] using hs, ?_⟩⟩
    · simp [putRow, Go.Sort.mapBlock, Sort.ahead, Array.getElem?_modify, hg, Go.Sort.onCells]
    · apply List.ext_getElem?
      intro j
      rw [List.getElem?_take, Array.getElem?_toList]
      by_cases hj : j < n * 2
      · have hjc : j < cur.size := by rw [hs]; exact Nat.lt_of_lt_of_le hj (Nat.mul_le_mul_right 2 hn)
        rw [if_pos hj]
        simp only [Go.Sort.putCells, Array.getElem?_mapIdx, Array.getElem?_eq_getElem hjc, Option.map_some]
        rw [if_pos ⟨Nat.zero_le _, by simp; omega⟩, List.getElem?_eq_getElem (by omega)]
        simp [getElem!_pos, show j < ys.length by omega]
      · rw [if_neg hj, List.getElem?_eq_none (by omega)]
theorem own_growK {w : World} {base n s : Nat} {e : TypeId} {v : Value} {xs : List Value} {os : Array Obj} (h : w.ownsRow base e s v n xs) : (Sort.grow w os).ownsRow base e s v n xs := by
  refine ⟨h.1, h.2.imp id fun ⟨g, cap, cur, h1, h2, h3, h4⟩ => ⟨g, cap, cur, h1, h2, (Sort.heap_grow_old _ _ (Array.getElem?_eq_some_iff.1 h3).1).trans h3, h4⟩⟩
/-- slices.SortFunc of a row of the call's own. -/
theorem sort_any (w : World) (base : Nat) (g cap : Nat) (l : List (Nat × Nat)) (hown : w.ownsRow base 77 2 (.slice (some ⟨g, 0, none⟩) l.length cap) l.length ((flatP l).map R32)) (hn : l.length < 4611686018427387904) :
    Calls Try.prog 61 #[.slice (some ⟨g, 0, none⟩) l.length cap, .func (.func 62) #[] #[]] w fun e w' => e = .returned (.tuple #[]) ∧ ∃ L : List (Nat × Nat), L.Perm l ∧ L.Pairwise (fun p q => p.1 ≤ q.1) ∧ w'.ownsRow base 77 2 (.slice (some ⟨g, 0, none⟩) L.length cap) L.length ((flatP L).map R32) ∧ w.grownBy w' (some g) := by
  have hg : g < w.heap.size := by
    rcases hown.2 with ⟨e0, _⟩ | ⟨g', cap', cur, e0, hb, hg, _⟩
    · cases e0
    · injection e0 with e1 _ _
      injection e1 with e1
      injection e1 with e1
      subst e1
      exact (Array.getElem?_eq_some_iff.1 hg).1
  have eg : ∀ args w, (callFunc 62 args).run Try.prog w = .ok (.enter 62 args) w := enters_of Try.func62 (by kernel_rfl) rfl
  have hcmp : CmpLays Try.prog 62 #[] encP 2 cfP g 0 l.toArray.size w := fun _ _ _ _ x y => closure_any x y _
  have h := AnyQ.slices_SortFunc Try.sortL 2 Try.isAgg77 Try.sizeOf77 encP (fun _ => rfl) (fun x v hv => by simp [encP, R32] at hv; rcases hv with rfl | rfl <;> rfl) cfP swoP 62 #[] g 0 cap l.toArray w eg hcmp (holds_own hown) hg (by simpa using hn)
  rw [show l.toArray.size = l.length by simp] at h
  refine Calls.mono h ?_
  rintro e w' ⟨he, d', n, os, ⟨hps, _, hp⟩, hs, rfl⟩
  have hsz : l.toArray.size = l.length := by simp
  have hps' : d'.size = l.length := by simpa using hps
  have hperm : d'.toList.Perm l := by
    rw [← hsz, ← hps, Array.extract_size] at hp
    rw [hps, Array.extract_size] at hp
    simpa using hp
  refine ⟨he, d'.toList, hperm, ?_, ?_, ?_⟩
  · rw [List.pairwise_iff_getElem]
    intro i j hi hj hij
    have h5 := hs i j (Nat.zero_le _) hij (by simpa [hps'] using hj)
    rw [lt_dec, decide_eq_false_iff_not] at h5
    rw [getElem!_pos d' j (by simpa using hj), getElem!_pos d' i (by simpa using hi)] at h5
    simp only [Array.getElem_toList] at *
    omega
  · unfold sortWorldK putRowK
    have e1 := flat_list d'.toList
    rw [Array.toArray_toList] at e1
    rw [e1, show d'.toList.length = l.length by simpa using hps']
    exact own_growK (own_put (ys := (flatP d'.toList).map R32) hown (by rw [List.length_map, flatP_len, Array.length_toList, hps']; omega))
  · refine ⟨rfl, rfl, rfl, by simp [sortWorldK, putRowK, putRow, Go.Sort.mapBlock, Sort.ahead, grow], fun k hk hne => ?_⟩
    unfold sortWorldK putRowK
    rw [Sort.heap_grow_old _ _ (by simpa [putRow, Go.Sort.mapBlock, Sort.ahead] using hk)]
    have : g ≠ k := fun e => hne (by rw [e])
    simp [putRow, Go.Sort.mapBlock, Sort.ahead, Array.getElem?_modify, this]
theorem sort_nil (w : World) (c : Nat) : Calls Try.prog 61 #[.slice none 0 c, .func (.func 62) #[] #[]] w fun e w' => e = .returned (.tuple #[]) ∧ w' = w := by
  have h := AnyF.slices_SortFunc_none (P := Try.prog) (ρ := Try.sortL_ren) { Try.sortL with } none c (.func (.func 62) #[] #[]) w
  exact Calls.mono h fun e w' ⟨he, hw⟩ => ⟨he, hw⟩
end Go.Proofs.Ytdmbgjpidlllcaa.RqSort
