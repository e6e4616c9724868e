/- Plain words for the chapter on the head: a record's terms, what is added, the order of records, the places of a term, what is taken. No conditions. · The order of records on records in memory: the document's sort carries where the labels lie. Of no program but for its types. No conditions. -/
import Derived.Test.YtkgmcabamhpjhaaGreatRcSpecs
import Derived.Test.YtkgmcabamhpjhaaGreatUtTx
import Derived.Test.YtkgmcabamhpjhaaGreatLbSpecs
namespace Go.Proofs.YtkgmcabamhpjhaaGreat.HdSpec
open Go Words Less LbSpec RcSpec RcAll

/-- The text of a label: its name, =, its value; a record's terms, as they stand; each once, in order. -/
def labT (x : Lab) : List UInt8 := x.1 ++ 61 :: x.2
def termsL (r : Rec) : List (List UInt8) := TxSpec.words r.line ++ r.labels.map labT
def terms (r : Rec) : List (List UInt8) := once (termsL r)

/-! ### The order of records -/
/-- The document's place of a record among records in order: behind all that aren't behind it. -/
def insR (x : Rec) : List Rec → List Rec
  | [] => [x]
  | y :: l => if 0 < cmpR y x then x :: y :: l else y :: insR x l
/-- The document's list: each put at its place, from the back. -/
def backTo (x : Rec) (o : List Rec) : Nat → Nat
  | 0 => 0
  | k + 1 => if 0 < cmpR (o.getD k RcSpec.none) x then backTo x o k else k + 1
def putR (x : Rec) (o : List Rec) : List Rec := o.take (backTo x o o.length) ++ x :: o.drop (backTo x o o.length)
def sortR (l : List Rec) : List Rec := l.foldl (fun o x => putR x o) []
theorem backTo_le (x : Rec) (o : List Rec) : ∀ k, backTo x o k ≤ k
  | 0 => Nat.le_refl _
  | k + 1 => by unfold backTo; split; exact Nat.le_succ_of_le (backTo_le x o k); exact Nat.le_refl _
theorem backTo_behind (x : Rec) (o : List Rec) : ∀ k j, backTo x o k ≤ j → j < k → 0 < cmpR (o.getD j RcSpec.none) x
  | 0, j, _, h => by omega
  | k + 1, j, h1, h2 => by
    unfold backTo at h1
    split at h1
    · rename_i h
      by_cases e : j = k
      · subst e; exact h
      · exact backTo_behind x o k j h1 (by omega)
    · omega
theorem backTo_ahead (x : Rec) (o : List Rec) : ∀ k, 0 < backTo x o k → ¬ 0 < cmpR (o.getD (backTo x o k - 1) RcSpec.none) x
  | 0, h => by unfold backTo at h; omega
  | k + 1, h => by
    unfold backTo at h ⊢
    split
    · rename_i h1
      rw [if_pos h1] at h
      exact backTo_ahead x o k h
    · rename_i h1
      exact h1
theorem putR_perm (x : Rec) (o : List Rec) : (putR x o).Perm (o ++ [x]) := by
  unfold putR
  have h1 : (o.take (backTo x o o.length) ++ x :: o.drop (backTo x o o.length)).Perm (x :: (o.take (backTo x o o.length) ++ o.drop (backTo x o o.length))) := List.perm_middle
  rw [List.take_append_drop] at h1
  exact h1.trans (List.perm_append_comm (l₁ := [x]) (l₂ := o))
theorem putR_len (x : Rec) (o : List Rec) : (putR x o).length = o.length + 1 := by rw [(putR_perm x o).length_eq]; simp
theorem sortR_snoc (l : List Rec) (x : Rec) : sortR (l ++ [x]) = putR x (sortR l) := by unfold sortR; rw [List.foldl_append]; rfl
theorem sortR_perm (l : List Rec) : (sortR l).Perm l := by
  suffices h : ∀ (l o : List Rec), (l.foldl (fun o x => putR x o) o).Perm (o ++ l) by simpa [sortR] using h l []
  intro l
  induction l with
  | nil => intro o; simp
  | cons x l ih =>
    intro o
    rw [List.foldl_cons]
    refine (ih _).trans ?_
    have h := (putR_perm x o).append_right l
    simpa using h
theorem sortR_len (l : List Rec) : (sortR l).length = l.length := (sortR_perm l).length_eq
/-- Records in order; strictly. -/
def AscR (l : List Rec) : Prop := l.Pairwise fun a b => cmpR a b ≤ 0
theorem putR_asc {x : Rec} {o : List Rec} (h : AscR o) : AscR (putR x o) := by
  have hP := List.pairwise_iff_getElem.1 h
  have hb := backTo_behind x o o.length
  have ha := backTo_ahead x o o.length
  have hl := backTo_le x o o.length
  unfold AscR putR
  generalize backTo x o o.length = k at *
  rw [List.pairwise_append]
  refine ⟨List.Pairwise.sublist (List.take_sublist k o) h, List.pairwise_cons.2 ⟨fun y hy => ?_, List.Pairwise.sublist (List.drop_sublist k o) h⟩, fun a ha' b hb' => ?_⟩
  · obtain ⟨j, hj, rfl⟩ := List.mem_iff_getElem.1 hy
    rw [List.length_drop] at hj
    have h1 := hb (k + j) (by omega) (by omega)
    rw [List.getElem_drop]
    rw [List.getD_eq_getElem?_getD, List.getElem?_eq_getElem (by omega)] at h1
    have h2 := cmpR_turn (o[k + j]'(by omega)) x
    simp only [Option.getD_some] at h1
    omega
  · have hax : cmpR a x ≤ 0 := by
      obtain ⟨j, hj, rfl⟩ := List.mem_iff_getElem.1 ha'
      rw [List.length_take] at hj
      rw [List.getElem_take]
      have h1 := ha (by omega)
      rw [List.getD_eq_getElem?_getD, List.getElem?_eq_getElem (by omega)] at h1
      simp only [Option.getD_some] at h1
      by_cases e : j = k - 1
      · subst e; omega
      · exact cmpR_le (hP j (k - 1) (by omega) (by omega) (by omega)) (by omega)
    rcases List.mem_cons.1 hb' with rfl | hb'
    · exact hax
    · obtain ⟨j, hj, rfl⟩ := List.mem_iff_getElem.1 hb'
      obtain ⟨i, hi, rfl⟩ := List.mem_iff_getElem.1 ha'
      rw [List.length_drop] at hj
      rw [List.length_take] at hi
      rw [List.getElem_drop, List.getElem_take]
      exact hP i (k + j) (by omega) (by omega) (by omega)
theorem sortR_asc (l : List Rec) : AscR (sortR l) := by
  suffices h : ∀ (l o : List Rec), AscR o → AscR (l.foldl (fun o x => putR x o) o) from h l [] List.Pairwise.nil
  intro l
  induction l with
  | nil => intro o h; exact h
  | cons x l ih => intro o h; exact ih _ (putR_asc h)
/-- Each Seq once. -/
def Apart (l : List Rec) : Prop := l.Pairwise fun a b => a.seq ≠ b.seq
theorem apart_perm {a b : List Rec} (h : a.Perm b) (hb : Apart b) : Apart a := h.symm.pairwise hb (fun {_ _} h e => h e.symm)
theorem asc_strict {l : List Rec} (h : AscR l) (ha : Apart l) : l.Pairwise fun a b => cmpR a b < 0 := by
  refine (List.Pairwise.and h ha).imp fun {a b} ⟨h1, h2⟩ => ?_
  unfold cmpR at *
  split
  · omega
  · split
    · rename_i h3; exact absurd h3.2 h2
    · rename_i h3 h4
      rw [if_neg h3, if_neg h4] at h1
      omega
/-- Records whose numbers differ have one order. -/
theorem order_one {a b : List Rec} (h : a.Perm b) (ha : AscR a) (hb : AscR b) (hd : Apart b) : a = b := by
  have h1 := asc_strict ha (apart_perm h hd)
  have h2 := asc_strict hb hd
  exact h.eq_of_pairwise (fun x y _ _ h3 h4 => by
    have := cmpR_turn x y
    omega) h1 h2

/-! ### A head -/
/-- Its records as they came; the greatest number that came. -/
structure HSt where
  recs : List Rec
  last : Option Nat
def new : HSt := ⟨[], .none⟩
def notMore (s : Option Nat) (x : Nat) : Bool := match s with | .none => false | some y => decide (x ≤ y)
/-- Does a number not rise? -/
def bad (s : Option Nat) : List Rec → Bool
  | [] => false
  | r :: l => notMore s r.seq || bad (some r.seq) l
def lastOf (s : Option Nat) (l : List Rec) : Option Nat := l.foldl (fun _ r => some r.seq) s
def addE (h : HSt) (l : List Rec) : Nat := if firstBad l ≠ 0 then firstBad l else if bad h.last l = true then 6 else if 65536 < h.recs.length + l.length then 3 else 0
def add (h : HSt) (l : List Rec) : HSt := if addE h l = 0 then ⟨h.recs ++ l, lastOf h.last l⟩ else h
def all (h : HSt) : List Rec := sortR h.recs
def taken (h : HSt) : HSt := ⟨[], h.last⟩
/-- The places of the records that have a term. -/
def find (l : List Rec) (t : List UInt8) : List UInt64 := ((List.range l.length).filter fun i => decide (t ∈ terms (l.getD i RcSpec.none))).map UInt64.ofNat

theorem lastOf_snoc (s : Option Nat) (l : List Rec) (x : Rec) : lastOf s (l ++ [x]) = some x.seq := by unfold lastOf; rw [List.foldl_append]; rfl
theorem bad_iff (s : Option Nat) (l : List Rec) : bad s l = true ↔ ∃ i, ∃ h : i < l.length, (if i = 0 then notMore s l[i].seq = true else l[i].seq ≤ (l.getD (i - 1) RcSpec.none).seq) := by
  induction l generalizing s with
  | nil => simp [bad]
  | cons r l ih =>
    rw [bad, Bool.or_eq_true, ih]
    constructor
    · rintro (h | ⟨i, hi, h⟩)
      · exact ⟨0, by simp, by simpa using h⟩
      · refine ⟨i + 1, by simpa using hi, ?_⟩
        rw [if_neg (by omega)]
        by_cases e : i = 0
        · subst e
          rw [if_pos rfl] at h
          simpa [notMore] using h
        · rw [if_neg e] at h
          obtain ⟨j, rfl⟩ : ∃ j, i = j + 1 := ⟨i - 1, by omega⟩
          simpa using h
    · rintro ⟨i, hi, h⟩
      by_cases e : i = 0
      · subst e
        left
        simpa using h
      · right
        obtain ⟨j, rfl⟩ : ∃ j, i = j + 1 := ⟨i - 1, by omega⟩
        refine ⟨j, by simpa using hi, ?_⟩
        rw [if_neg (by omega)] at h
        by_cases e2 : j = 0
        · subst e2
          rw [if_pos rfl]
          simpa [notMore] using h
        · obtain ⟨k, rfl⟩ : ∃ k, j = k + 1 := ⟨j - 1, by omega⟩
          rw [if_neg (by omega)]
          simpa using h
/-- Numbers that rise: each greater than what came, and than all ahead of it. -/
theorem rise {s : Option Nat} {l : List Rec} (h : bad s l = false) : (∀ x ∈ l, ∀ y, s = some y → y < x.seq) ∧ l.Pairwise fun a b => a.seq < b.seq := by
  induction l generalizing s with
  | nil => exact ⟨fun x hx => (by cases hx), List.Pairwise.nil⟩
  | cons r l ih =>
    rw [bad, Bool.or_eq_false_iff] at h
    obtain ⟨h1, h2⟩ := ih h.2
    have h0 : ∀ y, s = some y → y < r.seq := fun y e => by
      subst e
      have := h.1
      simp [notMore] at this
      omega
    refine ⟨fun x hx y e => ?_, List.pairwise_cons.2 ⟨fun b hb => h1 b hb r.seq rfl, h2⟩⟩
    rcases List.mem_cons.1 hx with rfl | hx
    · exact h0 y e
    · have := h1 x hx r.seq rfl
      have := h0 y e
      omega
/-- What holds of every head: its records may be, their numbers differ and are at most the last. -/
structure Good (h : HSt) : Prop where
  ok : ∀ r ∈ h.recs, Ok r
  fits : Fit h.recs
  apart : Apart h.recs
  last : ∀ r ∈ h.recs, ∃ y, h.last = some y ∧ r.seq ≤ y
  few : h.recs.length ≤ 65536
theorem good_new : Good new := ⟨by simp [new], by simp [new, Fit], by simp [new, Apart], by simp [new], by simp [new]⟩
theorem good_taken {h : HSt} (_ : Good h) : Good (taken h) := ⟨by simp [taken], by simp [taken, Fit], by simp [taken, Apart], by simp [taken], by simp [taken]⟩
theorem lastOf_ge {s : Option Nat} {l : List Rec} (h : l.Pairwise fun a b => a.seq < b.seq) : (l = [] ∧ lastOf s l = s) ∨ ∃ y, lastOf s l = some y ∧ (∀ r ∈ l, r.seq ≤ y) ∧ ∃ r ∈ l, r.seq = y := by
  rcases List.eq_nil_or_concat l with rfl | ⟨l', x, rfl⟩
  · exact .inl ⟨rfl, rfl⟩
  · right
    rw [List.concat_eq_append] at *
    refine ⟨x.seq, lastOf_snoc s l' x, fun r hr => ?_, x, by simp, rfl⟩
    rcases List.mem_append.1 hr with hr | hr
    · exact Nat.le_of_lt ((List.pairwise_append.1 h).2.2 r hr x (by simp))
    · simp at hr; subst hr; exact Nat.le_refl _
theorem good_add {h : HSt} {l : List Rec} (hg : Good h) (hf : Fit l) : Good (add h l) := by
  unfold add
  split
  · rename_i he
    unfold addE at he
    split at he
    · rename_i h1; exact absurd he h1
    · rename_i h1
      split at he
      · cases he
      · rename_i h2
        split at he
        · cases he
        · rename_i h3
          have hb : bad h.last l = false := by simpa using h2
          obtain ⟨r1, r2⟩ := rise hb
          have hok := firstBad_zero.1 (show firstBad l = 0 by omega)
          refine ⟨fun r hr => ?_, fun r hr => ?_, ?_, fun r hr => ?_, by simp; omega⟩
          · rcases List.mem_append.1 hr with hr | hr
            · exact hg.ok r hr
            · exact hok r hr
          · rcases List.mem_append.1 hr with hr | hr
            · exact hg.fits r hr
            · exact hf r hr
          · refine List.pairwise_append.2 ⟨hg.apart, r2.imp fun h => by omega, fun a ha b hb' => ?_⟩
            obtain ⟨y, e, hy⟩ := hg.last a ha
            have := r1 b hb' y e
            omega
          · rcases lastOf_ge (s := h.last) r2 with ⟨rfl, e⟩ | ⟨y, e, h4, z, hz, hzy⟩
            · simp at hr
              obtain ⟨y, e2, h5⟩ := hg.last r hr
              exact ⟨y, e.trans e2, h5⟩
            · refine ⟨y, e, ?_⟩
              rcases List.mem_append.1 hr with hr | hr
              · obtain ⟨y2, e2, h5⟩ := hg.last r hr
                have := r1 z hz y2 e2
                omega
              · exact h4 r hr
  · exact hg
end Go.Proofs.YtkgmcabamhpjhaaGreat.HdSpec

namespace Go.Proofs.YtkgmcabamhpjhaaGreat.HdRm
open Go Words Less LbSpec LbMem RcSpec RcAll RcMem HdSpec

def backM (x : RM) (o : List RM) : Nat := backTo x.1 (recsOf o) o.length
def putM (x : RM) (o : List RM) : List RM := o.take (backM x o) ++ x :: o.drop (backM x o)
def sortM (l : List RM) : List RM := l.foldl (fun o x => putM x o) []
theorem recs_len (l : List RM) : (recsOf l).length = l.length := by simp [recsOf]
theorem backM_le (x : RM) (o : List RM) : backM x o ≤ o.length := backTo_le _ _ _
theorem recs_putM (x : RM) (o : List RM) : recsOf (putM x o) = putR x.1 (recsOf o) := by
  unfold putM putR backM recsOf
  rw [List.map_append, List.map_cons, List.map_take, List.map_drop, List.length_map]
theorem recs_sortM (l : List RM) : recsOf (sortM l) = sortR (recsOf l) := by
  suffices h : ∀ (l o : List RM), recsOf (l.foldl (fun o x => putM x o) o) = (recsOf l).foldl (fun o x => putR x o) (recsOf o) from h l []
  intro l
  induction l with
  | nil => intro o; rfl
  | cons x l ih => intro o; rw [List.foldl_cons, ih, recs_putM]; rfl
theorem putM_perm (x : RM) (o : List RM) : (putM x o).Perm (o ++ [x]) := by
  unfold putM
  have h1 : (o.take (backM x o) ++ x :: o.drop (backM x o)).Perm (x :: (o.take (backM x o) ++ o.drop (backM x o))) := List.perm_middle
  rw [List.take_append_drop] at h1
  exact h1.trans (List.perm_append_comm (l₁ := [x]) (l₂ := o))
theorem putM_len (x : RM) (o : List RM) : (putM x o).length = o.length + 1 := by rw [(putM_perm x o).length_eq]; simp
theorem sortM_perm (l : List RM) : (sortM l).Perm l := by
  suffices h : ∀ (l o : List RM), (l.foldl (fun o x => putM x o) o).Perm (o ++ l) by simpa [sortM] using h l []
  intro l
  induction l with
  | nil => intro o; simp
  | cons x l ih =>
    intro o
    rw [List.foldl_cons]
    refine (ih _).trans ?_
    have h := (putM_perm x o).append_right l
    simpa using h
theorem mem_sortM {l : List RM} {m : RM} : m ∈ sortM l ↔ m ∈ l := (sortM_perm l).mem_iff
theorem sortM_len (l : List RM) : (sortM l).length = l.length := (sortM_perm l).length_eq
theorem sortM_take {l : List RM} {k : Nat} (h : k < l.length) : sortM (l.take (k + 1)) = putM l[k] (sortM (l.take k)) := by
  rw [List.take_succ_eq_append_getElem h]
  unfold sortM
  rw [List.foldl_append]
  rfl
/-- A step of the search from the back. -/
theorem back_more {x : RM} {o : List RM} {j : Nat} (hj : j < o.length) (h : 0 < cmpR (o[j]).1 x.1) : backTo x.1 (recsOf o) (j + 1) = backTo x.1 (recsOf o) j := by
  rw [backTo, if_pos]
  rw [List.getD_eq_getElem?_getD, List.getElem?_eq_getElem (by rw [recs_len]; exact hj)]
  simpa [recsOf] using h
theorem back_stop {x : RM} {o : List RM} {j : Nat} (hj : j < o.length) (h : ¬ 0 < cmpR (o[j]).1 x.1) : backTo x.1 (recsOf o) (j + 1) = j + 1 := by
  rw [backTo, if_neg]
  rw [List.getD_eq_getElem?_getD, List.getElem?_eq_getElem (by rw [recs_len]; exact hj)]
  simpa [recsOf] using h
theorem cmpR_cases (a b : Rec) : cmpR a b = -1 ∨ cmpR a b = 0 ∨ cmpR a b = 1 := by
  unfold cmpR
  split
  · exact .inl rfl
  · split
    · exact .inr (.inl rfl)
    · exact .inr (.inr rfl)
end Go.Proofs.YtkgmcabamhpjhaaGreat.HdRm

