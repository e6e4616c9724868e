/- Plain: what HeadFinds asks of records that are taken in their order of numbers. Of no program but for its types. No conditions. -/
import Derived.Test.YtkgmcabamhpjhaaGreatHdTakesW
import Derived.Test.YtkgmcabamhpjhaaGreatHdTermsF
namespace Go.Proofs.YtkgmcabamhpjhaaGreat.HdFindsP
open Go Words Less LbSpec LbMem RcSpec RcAll RcMem LbOpen RcOpen HdSpec HdRm HdTakesW HdFind

def ok0 (m : RM) : Bool := decide (check m.1 = 0)
def picks (l : List RM) : List RM := (l.mapIdx fun i m => setSeq m i).filter ok0
theorem picks_yes {l : List RM} {k : Nat} (h : k < l.length) (hc : check (setSeq l[k] k).1 = 0) : picks (l.take (k + 1)) = picks (l.take k) ++ [setSeq l[k] k] := by
  rw [List.take_succ_eq_append_getElem h]
  unfold picks
  rw [List.mapIdx_append, List.filter_append]
  congr 1
  simp [Nat.min_eq_left (Nat.le_of_lt h), ok0, hc]
theorem picks_no {l : List RM} {k : Nat} (h : k < l.length) (hc : check (setSeq l[k] k).1 ≠ 0) : picks (l.take (k + 1)) = picks (l.take k) := by
  rw [List.take_succ_eq_append_getElem h]
  unfold picks
  rw [List.mapIdx_append, List.filter_append]
  simp [Nat.min_eq_left (Nat.le_of_lt h), ok0, hc]
theorem mem_picks {l : List RM} {m : RM} (h : m ∈ picks l) : check m.1 = 0 ∧ ∃ i, ∃ hi : i < l.length, m = setSeq l[i] i := by
  obtain ⟨h1, h2⟩ := List.mem_filter.1 h
  refine ⟨of_decide_eq_true h2, ?_⟩
  obtain ⟨i, hi, rfl⟩ := List.mem_iff_getElem.1 h1
  exact ⟨i, by simpa using hi, by simp⟩
theorem total_filter (p : RM → Bool) : ∀ l : List RM, totalR (l.filter p) ≤ totalR l
  | [] => Nat.le_refl _
  | x :: l => by
    have ih := total_filter p l
    rw [List.filter_cons]
    have e : ∀ t : List RM, totalR (x :: t) = sizeR x.1 + totalR t := fun t => by simp [totalR]
    split
    · rw [e, e]; omega
    · rw [e]; omega
theorem total_picks (l : List RM) : totalR (picks l) ≤ totalR l := by
  refine Nat.le_trans (total_filter _ _) (Nat.le_of_eq ?_)
  unfold totalR
  congr 1
  apply List.ext_getElem
  · simp
  · intro i h1 h2
    simp [size_setSeq]
theorem picks_len (l : List RM) : (picks l).length ≤ l.length := by
  refine Nat.le_trans (List.length_filter_le _ _) (Nat.le_of_eq (by simp))
theorem picks_rise (l : List RM) : (recsOf (picks l)).Pairwise fun a b => a.seq < b.seq := by
  unfold recsOf picks
  rw [List.pairwise_map]
  refine List.Pairwise.sublist List.filter_sublist ?_
  rw [List.pairwise_iff_getElem]
  intro i j hi hj hij
  simp [setSeq, hij]
theorem bad_false : ∀ {s : Option Nat} {l : List Rec}, (∀ x ∈ l, ∀ y, s = some y → y < x.seq) → (l.Pairwise fun a b => a.seq < b.seq) → bad s l = false
  | _, [], _, _ => rfl
  | s, r :: l, h1, h2 => by
    obtain ⟨h3, h4⟩ := List.pairwise_cons.1 h2
    rw [bad, Bool.or_eq_false_iff]
    refine ⟨?_, bad_false (fun x hx y e => by cases e; exact h3 x hx) h4⟩
    cases s with
    | none => rfl
    | some y =>
      have := h1 r (by simp) y rfl
      simp [notMore]
      omega
theorem add_all {h : HSt} {l : List Rec} (hc : ∀ r ∈ l, check r = 0) (hb : bad h.last l = false) (hn : h.recs.length + l.length ≤ 65536) : addE h l = 0 := by
  unfold addE
  rw [if_neg (by rw [firstBad_zero.2 (fun r hr => check_ok.1 (hc r hr))]; decide), if_neg (by rw [hb]; decide), if_neg (by omega)]
/-- Two ways to one head. -/
theorem add_once {X : List Rec} (hc : ∀ r ∈ X, check r = 0) (hr : X.Pairwise fun a b => a.seq < b.seq) (hn : X.length ≤ 65536) : addE HdSpec.new X = 0 ∧ (add HdSpec.new X).recs = X := by
  have h1 : addE HdSpec.new X = 0 := add_all hc (bad_false (fun _ _ y e => by cases e) hr) (by simp [HdSpec.new]; exact hn)
  exact ⟨h1, by rw [add_ok h1]; simp [HdSpec.new]⟩
theorem add_twice {X : List Rec} (k : Nat) (hc : ∀ r ∈ X, check r = 0) (hr : X.Pairwise fun a b => a.seq < b.seq) (hn : X.length ≤ 65536) :
    addE HdSpec.new (X.take k) = 0 ∧ addE (add HdSpec.new (X.take k)) (X.drop k) = 0 ∧ (add (add HdSpec.new (X.take k)) (X.drop k)).recs = X := by
  have hr1 := hr.sublist (List.take_sublist k X)
  have hr2 := hr.sublist (List.drop_sublist k X)
  have hl : (X.take k).length + (X.drop k).length = X.length := by rw [← List.length_append, List.take_append_drop]
  obtain ⟨h1, h2⟩ := add_once (fun r hr => hc r (List.mem_of_mem_take hr)) hr1 (by omega)
  have h3 : addE (add HdSpec.new (X.take k)) (X.drop k) = 0 := by
    refine add_all (fun r hr => hc r (List.mem_of_mem_drop hr)) (bad_false (fun x hx y e => ?_) hr2) (by rw [h2]; omega)
    rw [add_ok h1] at e
    rcases lastOf_ge (s := HdSpec.new.last) hr1 with ⟨_, h4⟩ | ⟨y', h4, _, z, hz, hzy⟩
    · rw [h4] at e; cases e
    · rw [h4] at e
      cases e
      have h5 := List.pairwise_append.1 (by rw [List.take_append_drop]; exact hr : (X.take k ++ X.drop k).Pairwise fun a b => a.seq < b.seq)
      have := h5.2.2 z hz x hx
      omega
  exact ⟨h1, h3, by rw [add_ok h3]; simp [h2]⟩
theorem apart_rise {X : List Rec} (hr : X.Pairwise fun a b => a.seq < b.seq) : Apart X := hr.imp fun h => by omega
theorem sort_strict {X : List Rec} (hr : X.Pairwise fun a b => a.seq < b.seq) {i : Nat} (hi : i + 1 < (sortR X).length) : cmpR ((sortR X)[i]'(by omega)) (sortR X)[i + 1] < 0 := by
  have h := asc_strict (sortR_asc X) (apart_perm (sortR_perm X) (apart_rise hr))
  exact List.pairwise_iff_getElem.1 h i (i + 1) (by omega) hi (by omega)
end Go.Proofs.YtkgmcabamhpjhaaGreat.HdFindsP
