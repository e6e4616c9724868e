/- Plain words for the program's head: records by their blocks, those that have a term, a batch laid among records that are in order, the places of a term. Of no program. No conditions. -/
import Derived.Test.YtkgmcabamhpjhaaGreatHdSpecs
import Derived.Test.YtkgmcabamhpjhaaGreatRcSpecs
namespace Go.Proofs.YtkgmcabamhpjhaaGreat.HpSpec
open Go Words Less LbSpec LbMem RcSpec RcAll RcMem HdSpec HdRm

/-- A record of the head: its block; the record, and where its labels lie. -/
abbrev Pin := Nat × RM
def rcp (x : Pin) : Rec := x.2.1
def cfP (x y : Pin) : Int := cmpR (rcp x) (rcp y)
def having (bs : List Pin) (t : List UInt8) : List Pin := bs.filter fun x => decide (t ∈ terms (rcp x))
theorem having_append (a b : List Pin) (t : List UInt8) : having (a ++ b) t = having a t ++ having b t := by unfold having; rw [List.filter_append]

/-- The number of a term's row. -/
def enc : List UInt8 → Nat
  | [] => 0
  | b :: l => enc l * 256 + b.toNat + 1
theorem enc_inj : ∀ {a b : List UInt8}, enc a = enc b → a = b
  | [], [], _ => rfl
  | [], y :: b, h => by simp [enc] at h
  | x :: a, [], h => by simp [enc] at h
  | x :: a, y :: b, h => by
    have hx := x.toNat_lt
    have hy := y.toNat_lt
    simp only [enc] at h
    have h1 : enc a = enc b := by omega
    have h2 : x.toNat = y.toNat := by omega
    rw [enc_inj h1, UInt8.toNat_inj.1 h2]
def tn (t : List UInt8) : Nat := enc t + 5
theorem tn_inj {a b : List UInt8} (h : tn a = tn b) : a = b := enc_inj (by unfold tn at h; omega)
theorem tn_ge (t : List UInt8) : 5 ≤ tn t := by unfold tn; omega

/-! ### A batch in order, laid among records in order, from its end on -/
section
variable {α : Type} (cf : α → α → Int)
def cnt (l : List α) (r : α) : Nat := l.countP fun x => decide (cf x r < 0)
def laid (S : List α) : List α → Nat × List α
  | [] => (S.length, [])
  | r :: rs => (cnt cf (S.take (laid S rs).1) r, r :: ((S.take (laid S rs).1).drop (cnt cf (S.take (laid S rs).1) r) ++ (laid S rs).2))
def merged (S P : List α) : List α := S.take (laid cf S P).1 ++ (laid cf S P).2
variable {cf}
theorem cnt_le (l : List α) (r : α) : cnt cf l r ≤ l.length := List.countP_le_length
theorem laid_le (S : List α) : ∀ P : List α, (laid cf S P).1 ≤ S.length
  | [] => Nat.le_refl _
  | r :: rs => by
    have h := cnt_le (cf := cf) (S.take (laid cf S rs).1) r
    rw [List.length_take] at h
    simp only [laid]
    omega
theorem laid_len (S : List α) : ∀ P : List α, (laid cf S P).1 + (laid cf S P).2.length = S.length + P.length
  | [] => by simp [laid]
  | r :: rs => by
    have h := cnt_le (cf := cf) (S.take (laid cf S rs).1) r
    have h1 := laid_len S rs
    have h2 := laid_le (cf := cf) S rs
    rw [List.length_take] at h
    simp only [laid, List.length_cons, List.length_append, List.length_drop, List.length_take]
    omega
theorem merged_len (S P : List α) : (merged cf S P).length = S.length + P.length := by
  have h1 := laid_len (cf := cf) S P
  have h2 := laid_le (cf := cf) S P
  unfold merged
  rw [List.length_append, List.length_take]
  omega
theorem merged_perm (S : List α) : ∀ P : List α, (merged cf S P).Perm (S ++ P)
  | [] => by simp [merged, laid]
  | r :: rs => by
    have ih := merged_perm S rs
    have h2 := laid_le (cf := cf) S rs
    unfold merged at ih ⊢
    simp only [laid]
    have h := cnt_le (cf := cf) (S.take (laid cf S rs).1) r
    generalize cnt cf (S.take (laid cf S rs).1) r = c at *
    have e1 : S.take c = (S.take (laid cf S rs).1).take c := by
      rw [List.length_take] at h
      rw [List.take_take, Nat.min_eq_left (by omega)]
    rw [e1]
    generalize S.take (laid cf S rs).1 = L at *
    generalize (laid cf S rs).2 = suf at *
    refine List.perm_middle.trans ?_
    rw [← List.append_assoc, List.take_append_drop]
    exact (List.Perm.cons r ih).trans List.perm_middle.symm

variable (hle : ∀ a b c, cf a b ≤ 0 → cf b c ≤ 0 → cf a c ≤ 0) (hturn : ∀ a b, cf b a = - cf a b)
def Asc (cf : α → α → Int) (l : List α) : Prop := l.Pairwise fun a b => cf a b ≤ 0
include hle hturn in
theorem lt_of {a b c : α} (h : cf a b ≤ 0) (h' : cf b c < 0) : cf a c < 0 := by
  have h1 := hle a b c h (by omega)
  by_cases e : cf a c = 0
  · have h2 := hle c a b (by rw [hturn a c]; omega) h
    rw [hturn b c] at h2
    omega
  · omega
include hle hturn in
theorem cnt_spec {r : α} : ∀ {l : List α}, Asc cf l → (∀ x ∈ l.take (cnt cf l r), cf x r < 0) ∧ (∀ x ∈ l.drop (cnt cf l r), ¬ cf x r < 0)
  | [], _ => by simp
  | a :: l, h => by
    unfold Asc at h
    rw [List.pairwise_cons] at h
    obtain ⟨h1, h2⟩ := cnt_spec (r := r) (l := l) h.2
    by_cases ha : cf a r < 0
    · have e : cnt cf (a :: l) r = cnt cf l r + 1 := by
        unfold cnt
        rw [List.countP_cons_of_pos (by simpa using ha)]
      rw [e, List.take_succ_cons, List.drop_succ_cons]
      refine ⟨fun x hx => ?_, h2⟩
      rcases List.mem_cons.1 hx with rfl | hx
      · exact ha
      · exact h1 x hx
    · have hz : ∀ x ∈ l, ¬ cf x r < 0 := fun x hx hlt => ha (lt_of hle hturn (h.1 x hx) hlt)
      have e : cnt cf (a :: l) r = 0 := by
        unfold cnt
        rw [List.countP_eq_zero]
        intro x hx
        rcases List.mem_cons.1 hx with rfl | hx
        · simpa using ha
        · simpa using hz x hx
      rw [e, List.take_zero, List.drop_zero]
      refine ⟨fun x hx => (by cases hx), fun x hx => ?_⟩
      rcases List.mem_cons.1 hx with rfl | hx
      · exact ha
      · exact hz x hx
include hle hturn in
theorem laid_asc {S : List α} (hS : Asc cf S) : ∀ {P : List α}, Asc cf P →
    Asc cf (laid cf S P).2 ∧ (∀ a ∈ S.take (laid cf S P).1, ∀ b ∈ (laid cf S P).2, cf a b ≤ 0) ∧ ∀ b ∈ (laid cf S P).2, ∃ p ∈ P, cf p b ≤ 0
  | [], _ => by
    refine ⟨List.Pairwise.nil, fun a _ b hb => ?_, fun b hb => ?_⟩
    · simp [laid] at hb
    · simp [laid] at hb
  | r :: rs, hP => by
    unfold Asc at hP
    rw [List.pairwise_cons] at hP
    obtain ⟨i1, i2, i3⟩ := laid_asc hS (P := rs) hP.2
    have h2 := laid_le (cf := cf) S rs
    simp only [laid]
    have hL : Asc cf (S.take (laid cf S rs).1) := List.Pairwise.sublist (List.take_sublist _ _) hS
    obtain ⟨c1, c2⟩ := cnt_spec hle hturn (r := r) hL
    have h := cnt_le (cf := cf) (S.take (laid cf S rs).1) r
    generalize cnt cf (S.take (laid cf S rs).1) r = c at *
    have e1 : S.take c = (S.take (laid cf S rs).1).take c := by
      rw [List.length_take] at h
      rw [List.take_take, Nat.min_eq_left (by omega)]
    rw [e1]
    generalize S.take (laid cf S rs).1 = L at *
    generalize (laid cf S rs).2 = suf at *
    have hsplit : ∀ a ∈ L.take c, ∀ b ∈ L.drop c, cf a b ≤ 0 := by
      unfold Asc at hL
      rw [← List.take_append_drop c L, List.pairwise_append] at hL
      exact hL.2.2
    have hr : ∀ b ∈ L.drop c ++ suf, cf r b ≤ 0 := fun b hb => by
      rcases List.mem_append.1 hb with hb | hb
      · have := c2 b hb
        rw [hturn b r]
        omega
      · obtain ⟨p, hp, hpb⟩ := i3 b hb
        exact hle r p b (hP.1 p hp) hpb
    refine ⟨?_, fun a ha b hb => ?_, fun b hb => ?_⟩
    · unfold Asc
      rw [List.pairwise_cons, List.pairwise_append]
      refine ⟨hr, List.Pairwise.sublist (List.drop_sublist _ _) hL, i1, fun a ha b hb => i2 a (List.mem_of_mem_drop ha) b hb⟩
    · rcases List.mem_cons.1 hb with rfl | hb
      · have := c1 a ha
        omega
      · rcases List.mem_append.1 hb with hb | hb
        · exact hsplit a ha b hb
        · exact i2 a (List.mem_of_mem_take ha) b hb
    · rcases List.mem_cons.1 hb with rfl | hb
      · refine ⟨b, by simp, ?_⟩
        have := hturn b b
        omega
      · exact ⟨r, by simp, hr b hb⟩
include hle hturn in
theorem merged_asc {S P : List α} (hS : Asc cf S) (hP : Asc cf P) : Asc cf (merged cf S P) := by
  obtain ⟨h1, h2, _⟩ := laid_asc hle hturn hS hP
  unfold merged Asc
  rw [List.pairwise_append]
  exact ⟨List.Pairwise.sublist (List.take_sublist _ _) hS, h1, h2⟩
end
theorem cfP_le (a b c : Pin) : cfP a b ≤ 0 → cfP b c ≤ 0 → cfP a c ≤ 0 := cmpR_le
theorem cfP_turn (a b : Pin) : cfP b a = - cfP a b := cmpR_turn _ _

/-! ### The places of a term -/
theorem cnt_at {ss : List Pin} (h : ss.Pairwise fun a b => cfP a b < 0) {i : Nat} (hi : i < ss.length) : cnt cfP ss ss[i] = i := by
  have hP := List.pairwise_iff_getElem.1 h
  have hA : Asc cfP ss := h.imp fun h => by omega
  obtain ⟨h1, h2⟩ := cnt_spec cfP_le cfP_turn (r := ss[i]) hA
  have hc := cnt_le (cf := cfP) ss ss[i]
  have hself : cfP ss[i] ss[i] = 0 := by have := cfP_turn ss[i] ss[i]; omega
  rcases Nat.lt_trichotomy (cnt cfP ss ss[i]) i with hlt | he | hgt
  · exfalso
    have hm : ss[cnt cfP ss ss[i]]'(by omega) ∈ ss.drop (cnt cfP ss ss[i]) := by
      rw [List.mem_drop_iff_getElem]
      exact ⟨0, by omega, by simp⟩
    exact h2 _ hm (hP _ _ (by omega) hi hlt)
  · exact he
  · exfalso
    have hm : ss[i] ∈ ss.take (cnt cfP ss ss[i]) := by
      rw [List.mem_take_iff_getElem]
      exact ⟨i, by omega, rfl⟩
    have := h1 _ hm
    omega
def none_ : Pin := (0, RcSpec.none, (.none, 0, 0))
theorem all_range (ss : List Pin) : ss = (List.range ss.length).map fun i => ss.getD i none_ := by
  apply List.ext_getElem
  · simp
  · intro i h1 h2
    simp [List.getD_eq_getElem?_getD, List.getElem?_eq_getElem h1]
theorem finds {ss : List Pin} (h : ss.Pairwise fun a b => cfP a b < 0) (t : List UInt8) : (having ss t).map (fun x => UInt64.ofNat (cnt cfP ss x)) = HdSpec.find (ss.map rcp) t := by
  have e : having ss t = ((List.range ss.length).filter fun i => decide (t ∈ terms (rcp (ss.getD i none_)))).map fun i => ss.getD i none_ := by
    have h1 : having ss t = having ((List.range ss.length).map fun i => ss.getD i none_) t := congrArg (fun l => having l t) (all_range ss)
    rw [h1]
    unfold having
    rw [List.filter_map]
    rfl
  rw [e, List.map_map]
  unfold HdSpec.find
  rw [List.length_map]
  have e2 : ((List.range ss.length).filter fun i => decide (t ∈ terms ((ss.map rcp).getD i RcSpec.none))) = ((List.range ss.length).filter fun i => decide (t ∈ terms (rcp (ss.getD i none_)))) := by
    apply List.filter_congr
    intro i hi
    have hlt := List.mem_range.1 hi
    simp [List.getD_eq_getElem?_getD, List.getElem?_eq_getElem hlt]
  rw [e2]
  apply List.map_congr_left
  intro i hi
  have hlt := List.mem_range.1 (List.mem_filter.1 hi).1
  have e3 : ss.getD i none_ = ss[i] := by simp [List.getD_eq_getElem?_getD, List.getElem?_eq_getElem hlt]
  simp only [Function.comp_apply]
  rw [e3, cnt_at h hlt]
theorem find_asc (L : List Rec) (t : List UInt8) (hn : L.length ≤ 65536) : (HdSpec.find L t).Pairwise fun a b => a.toNat ≤ b.toNat := by
  unfold HdSpec.find
  rw [List.pairwise_map]
  have h1 : ((List.range L.length).filter fun i => decide (t ∈ terms (L.getD i RcSpec.none))).Pairwise (· < ·) := List.Pairwise.sublist List.filter_sublist List.pairwise_lt_range
  have h2 : ((List.range L.length).filter fun i => decide (t ∈ terms (L.getD i RcSpec.none))).Pairwise fun a b => a < L.length ∧ b < L.length := by
    rw [List.pairwise_iff_forall_sublist]
    intro a b hs
    have ha := hs.subset (show a ∈ [a, b] by simp)
    have hb := hs.subset (show b ∈ [a, b] by simp)
    exact ⟨List.mem_range.1 (List.mem_filter.1 ha).1, List.mem_range.1 (List.mem_filter.1 hb).1⟩
  refine (h1.and h2).imp fun {a b} ⟨h3, h4, h5⟩ => ?_
  rw [UInt64.toNat_ofNat', UInt64.toNat_ofNat', Nat.mod_eq_of_lt (by omega), Nat.mod_eq_of_lt (by omega)]
  omega
/-- What the search and the sort of the places make. -/
theorem places {ss bs : List Pin} (hp : ss.Perm bs) (h : ss.Pairwise fun a b => cfP a b < 0) (hn : ss.length ≤ 65536) (t : List UInt8) {l : List UInt64}
    (hl : l.Perm ((having bs t).map fun x => UInt64.ofNat (cnt cfP ss x))) (hs : l.Pairwise fun a b => a.toNat ≤ b.toNat) : l = HdSpec.find (ss.map rcp) t := by
  have h1 : l.Perm (HdSpec.find (ss.map rcp) t) := by
    rw [← finds h]
    refine hl.trans (List.Perm.map _ ?_)
    exact (hp.filter _).symm
  exact h1.eq_of_pairwise (fun x y _ _ h3 h4 => UInt64.toNat_inj.1 (by omega)) hs (find_asc _ t (by simpa using hn))

/-- Records in order whose numbers differ, by their blocks. -/
theorem strict {ss : List Pin} (h : AscR (ss.map rcp)) (hd : Apart (ss.map rcp)) : ss.Pairwise fun a b => cfP a b < 0 := by
  have := asc_strict h hd
  rwa [List.pairwise_map] at this
theorem ascR_iff {ss : List Pin} : AscR (ss.map rcp) ↔ Asc cfP ss := by
  unfold AscR Asc
  rw [List.pairwise_map]
  exact Iff.rfl
theorem terms_len (r : Rec) (h : (TxSpec.words r.line).length ≤ 1025) (h2 : r.labels.length ≤ 16) : (HdSpec.terms r).length ≤ 2000 := by
  have h3 := once_length (termsL r)
  have h4 : (termsL r).length = (TxSpec.words r.line).length + r.labels.length := by simp [termsL]
  unfold HdSpec.terms
  omega
end Go.Proofs.YtkgmcabamhpjhaaGreat.HpSpec
