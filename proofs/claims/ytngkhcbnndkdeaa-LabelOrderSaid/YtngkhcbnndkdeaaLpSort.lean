/- The library's sort of a row of labels by their names, and what the sorted row is. Condition: fewer than 2^62 labels. -/
import Derived.Test.YtngkhcbnndkdeaaLpCopy
import Derived.Test.YtngkhcbnndkdeaaLpSortL
namespace Go.Proofs.Ytngkhcbnndkdeaa.LpSort
open Go Go.RowKit Words AppN Less LbSpec LbText LbMem LbRef LbCmp UtOwn LpOrd LpBoth LpCmp LpCopy
open Go.Sort (flatK size_flatK get_flatK HoldsK putRowK)

def encL (x : Lab) : List Value := [S8 x.1, S8 x.2]
theorem flatK_flat (d : Array Lab) : flatK encL 2 d = (flat d.toList).toArray := by
  apply Array.ext
  · simp [flat_len]
  · intro t h1 h2
    have hd : t / 2 < d.toList.length := by simp [size_flatK] at h1; simp; omega
    obtain ⟨f0, f1⟩ := flat_at hd
    have hg := get_flatK encL 2 d t (by simpa [size_flatK] using h1)
    rw [getElem!_pos _ t h1] at hg
    rw [hg]
    have hx : d[t / 2]! = d.toList[t / 2] := by rw [getElem!_pos d (t / 2) (by simpa using hd)]; simp
    rw [hx]
    have key : (flat d.toList).toArray[t] = (flat d.toList)[t]'(by simpa using h2) := by simp
    rw [key]
    rcases Nat.mod_two_eq_zero_or_one t with h | h
    · have ht : t / 2 * 2 = t := by omega
      rw [ht] at f0
      rw [h]
      exact (List.getElem?_eq_some_iff.1 f0).2.symm
    · have ht : t / 2 * 2 + 1 = t := by omega
      rw [ht] at f1
      rw [h]
      exact (List.getElem?_eq_some_iff.1 f1).2.symm
theorem holds_row {w : World} {M : Nat} {l : List Lab} (h : Row w M l) : HoldsK encL 2 w M 0 l.toArray := by
  intro j hj
  rw [flatK_flat] at hj ⊢
  simp only [List.size_toArray] at hj
  rw [Nat.zero_add]
  refine ⟨cell_of h ?_, frozen_of h⟩
  rw [getElem!_pos _ j (by simpa using hj)]
  simp only [List.getElem?_toArray]
  simp
theorem row_sorted {w : World} {M n : Nat} {os : Array Obj} {l L : List Lab} (h : Row w M l) (hl : L.length = l.length) : Row (sortWorldK encL 2 w M 0 n L.toArray os) M L := by
  unfold Row at *
  have hg : M < w.heap.size := (Array.getElem?_eq_some_iff.1 h).1
  unfold sortWorldK putRowK
  rw [flatK_flat, Go.Sort.heap_grow_old _ _ (by simpa using hg)]
  simp only [Go.Sort.putRow, Go.Sort.mapBlock, Go.Sort.ahead, Array.getElem?_modify, h, if_true, Option.map_some, Go.Sort.onCells]
  congr 2
  apply Array.ext
  · simp [Go.Sort.putCells, flat_len, hl]
  · intro j h1 h2
    simp [Go.Sort.putCells] at h1 h2 ⊢
    rw [if_pos h2]
    rw [List.getElem?_eq_getElem h2]
    rfl
theorem below_sorted {w : World} {M n : Nat} {os : Array Obj} {d : Array Lab} (hM : M < w.heap.size) : Below M w (sortWorldK encL 2 w M 0 n d os) := by
  unfold sortWorldK putRowK
  refine ⟨rfl, rfl, rfl, by simp, fun k hk => ?_⟩
  rw [Go.Sort.heap_grow_old _ _ (by simp; omega)]
  have : M ≠ k := by omega
  simp [Go.Sort.putRow, Go.Sort.mapBlock, Go.Sort.ahead, Array.getElem?_modify, this]

theorem lt_less (x y : Lab) : ltOf (fun x y : Lab => cmpS x.1 y.1) x y = less x.1 y.1 := by
  unfold ltOf cmpS
  cases h1 : less x.1 y.1 with
  | true => simp [h1]
  | false => cases h2 : less y.1 x.1 <;> simp [h1, h2]
theorem swo : Go.Sort.SWO (ltOf (fun x y : Lab => cmpS x.1 y.1)) where
  irrefl x := by rw [lt_less]; exact less_irrefl _
  trans x y z h1 h2 := by rw [lt_less] at *; exact less_trans h1 h2
  ntrans x y z h1 h2 := by
    rw [lt_less] at *
    cases h : less x.1 z.1 with
    | false => rfl
    | true =>
      by_cases e : x.1 = y.1
      · rw [e, h2] at h; cases h
      · rcases less_total e with h3 | h3
        · rw [h1] at h3; cases h3
        · have := less_trans h3 h
          rw [h2] at this; cases this
theorem cmpLays (M size : Nat) (w : World) : CmpLays Try.prog 21 #[] encL 2 (fun x y : Lab => cmpS x.1 y.1) M 0 size w := fun m os dk _ x y =>
  (byName_any x y _).mono fun e w' ⟨he, hw⟩ => ⟨he, 0, #[.cells #[S8 x.1, S8 x.2] 37, .cells #[S8 y.1, S8 y.2] 37], by subst hw; unfold boxed; rw [Go.Sort.alloc_eq_grow, Go.Sort.alloc_eq_grow, Go.Sort.grow_grow]; rfl⟩

def Srt (L : List Lab) : Prop := L.Pairwise fun a b => less b.1 a.1 = false

/-- slices.SortFunc of labels, by their names. -/
theorem sort_any (w : World) (M : Nat) (l : List Lab) (hrow : Row w M l) (hn : l.length < 4611686018427387904) :
    Calls Try.prog 20 #[.slice (some ⟨M, 0, none⟩) l.length l.length, .func (.func 21) #[] #[]] w fun e w' => e = .returned (.tuple #[]) ∧ ∃ L, L.Perm l ∧ Srt L ∧ Row w' M L ∧ Below M w w' := by
  have eg : ∀ args w, (callFunc 21 args).run Try.prog w = .ok (.enter 21 args) w := enters_of Try.func21 (by kernel_rfl) rfl
  have hcon := AnyQ.slices_SortFunc Try.sortL 2 Try.isAgg37 Try.sizeOf37 encL (fun _ => rfl) (fun x v hv => by simp [encL] at hv; rcases hv with rfl | rfl <;> rfl) (fun x y : Lab => cmpS x.1 y.1) swo 21 #[] M 0 l.length l.toArray w eg (cmpLays M _ w) (holds_row hrow) hrow.lt (by simpa using hn)
  refine Calls.mono hcon ?_
  rintro e w' ⟨he, d', n, os, ⟨hps, _, hp⟩, hs, rfl⟩
  refine ⟨he, d'.toList, ?_, ?_, ?_, below_sorted hrow.lt⟩
  · have : (d'.extract 0 l.toArray.size).toList = d'.toList := by rw [← hps]; simp
    rw [this] at hp
    simpa using hp
  · unfold Srt
    rw [List.pairwise_iff_getElem]
    intro i j hi hj hij
    have h := hs i j (Nat.zero_le _) hij (by rw [← hps]; simpa using hj)
    rw [lt_less] at h
    rw [getElem!_pos d' j (by simpa using hj), getElem!_pos d' i (by simpa using hi)] at h
    simpa using h
  · have h := row_sorted (n := n) (os := os) (L := d'.toList) hrow (by simpa using hps)
    simpa using h

theorem srt_asc : ∀ {L : List Lab}, Srt L → twins L = false → Asc L
  | [], _, _ => List.Pairwise.nil
  | [x], _, _ => by unfold Asc; simp
  | x :: y :: t, h, ht => by
    rw [twins, Bool.or_eq_false_iff] at ht
    unfold Srt at h
    rw [List.pairwise_cons] at h
    have ih := srt_asc h.2 ht.2
    have hxy : less x.1 y.1 = true := by
      rcases less_total (by simpa using ht.1 : x.1 ≠ y.1) with h3 | h3
      · exact h3
      · have := h.1 y (by simp)
        rw [h3] at this
        cases this
    unfold Asc at ih ⊢
    rw [List.pairwise_cons]
    refine ⟨fun z hz => ?_, ih⟩
    rcases List.mem_cons.1 hz with rfl | hz
    · exact hxy
    · rw [List.pairwise_cons] at ih
      exact less_trans hxy (ih.1 z hz)
theorem twins_dup : ∀ {L : List Lab}, twins L = true → ¬ (L.map Prod.fst).Nodup
  | [], h => by simp [twins] at h
  | [x], h => by simp [twins] at h
  | x :: y :: t, h => by
    rw [twins, Bool.or_eq_true] at h
    rcases h with h | h
    · intro hd
      rw [List.map_cons, List.nodup_cons] at hd
      exact hd.1 (by simp at h; rw [h]; simp)
    · intro hd
      rw [List.map_cons, List.nodup_cons] at hd
      exact twins_dup h hd.2
/-- What Canon answers of a list that has no fault. -/
theorem canon_sorted {l L : List Lab} (hp : L.Perm l) (hs : Srt L) (h16 : l.length ≤ 16) (he : firstErr l = 0) : canon l = if twins L = true then (6, []) else (0, L) := by
  unfold canon
  rw [if_neg (by omega), if_neg (by simpa using he)]
  by_cases ht : twins L = true
  · rw [if_pos ht, if_pos]
    unfold dup
    rw [decide_eq_true_eq]
    exact fun hd => twins_dup ht ((hp.map _).nodup_iff.2 hd)
  · have ht' : twins L = false := by simpa using ht
    have ha := srt_asc hs ht'
    have hd := (hp.map Prod.fst).nodup_iff.1 (asc_nodup ha)
    rw [if_neg ht, if_neg (by unfold dup; simpa using hd)]
    rw [asc_ext (sort_asc hd) ha ((sort_perm l).trans hp.symm)]
end Go.Proofs.Ytngkhcbnndkdeaa.LpSort
