/- Plain: the words of a text: runs of word runes, their small forms of at most 32 runes, inner runs; what the statements of layer 7 reckon with them. No conditions. -/
import Derived.Test.YtebdolfcemplnaaUtSpec
namespace Go.Proofs.Ytebdolfcemplnaa.TxSpec
open Go UtSpec

def wd (r : Nat) : Bool := word (r : Int)
/-- The runs of a row of runes; with each whether it is an inner one. cur: the run that is under way; st: whether a rune stands ahead of it. -/
def runsA (cur : List Nat) (st : Bool) : List Nat → List (List Nat × Bool)
  | [] => if cur = [] then [] else [(cur, false)]
  | r :: rs => if wd r = true then runsA (cur ++ [r]) st rs else if cur = [] then runsA [] true rs else (cur, st) :: runsA [] true rs
def wordsA (cur : List Nat) : List Nat → List (List Nat)
  | [] => if cur = [] then [] else [cur]
  | r :: rs => if wd r = true then wordsA (cur ++ [r]) rs else if cur = [] then wordsA [] rs else cur :: wordsA [] rs
theorem runsA_fst (R : List Nat) : ∀ (cur : List Nat) (st : Bool), (runsA cur st R).map Prod.fst = wordsA cur R := by
  induction R with
  | nil => intro cur st; unfold runsA wordsA; split <;> rfl
  | cons r R ih =>
    intro cur st
    unfold runsA wordsA
    split
    · exact ih _ _
    · split
      · exact ih _ _
      · rw [List.map_cons, ih]
/-- The word of a run. -/
def wof (run : List Nat) : List UInt8 := encs ((run.take 32).map smallN)
def rs (s : List UInt8) : List Nat := (runes s).map Prod.fst
def words (s : List UInt8) : List (List UInt8) := (wordsA [] (rs s)).map wof
def inners (s : List UInt8) : List (List UInt8) := ((runsA [] false (rs s)).filter Prod.snd).map fun p => wof p.1

theorem wordsA_all (R : List Nat) : ∀ (cur : List Nat), (∀ r ∈ cur, wd r = true) → ∀ c ∈ wordsA cur R, c ≠ [] ∧ ∀ r ∈ c, wd r = true := by
  induction R with
  | nil =>
    intro cur hc c h
    unfold wordsA at h
    split at h
    · cases h
    · rename_i hn
      rw [List.mem_singleton] at h
      subst h
      exact ⟨hn, hc⟩
  | cons r R ih =>
    intro cur hc c h
    unfold wordsA at h
    split at h
    · rename_i hr
      refine ih _ (fun x hx => ?_) c h
      rcases List.mem_append.1 hx with hx | hx
      · exact hc x hx
      · rw [List.mem_singleton] at hx
        rw [hx]
        exact hr
    · split at h
      · exact ih [] (by simp) c h
      · rename_i hn
        rcases List.mem_cons.1 h with rfl | h
        · exact ⟨hn, hc⟩
        · exact ih [] (by simp) c h
/-- A row of word runes, and what is behind it. -/
theorem wordsA_run (c : List Nat) (hc : ∀ r ∈ c, wd r = true) : ∀ (cur R : List Nat), wordsA cur (c ++ R) = wordsA (cur ++ c) R := by
  induction c with
  | nil => intro cur R; simp
  | cons r c ih =>
    intro cur R
    rw [List.cons_append, wordsA, if_pos (hc r (by simp)), ih (fun x hx => hc x (by simp [hx]))]
    simp
theorem wordsA_one {c : List Nat} (hc : ∀ r ∈ c, wd r = true) (hn : c ≠ []) : wordsA [] c = [c] := by
  have h := wordsA_run c hc [] []
  rw [List.append_nil, List.nil_append] at h
  rw [h, wordsA, if_neg hn]
/-- A mark parts the words. -/
theorem wordsA_mark {x : Nat} (hx : wd x = false) (A : List Nat) : ∀ (cur B : List Nat), wordsA cur (A ++ x :: B) = wordsA cur A ++ wordsA [] B := by
  induction A with
  | nil =>
    intro cur B
    have hx' : ¬ wd x = true := by rw [hx]; decide
    rw [List.nil_append, show wordsA cur (x :: B) = if wd x = true then wordsA (cur ++ [x]) B else if cur = [] then wordsA [] B else cur :: wordsA [] B from rfl, if_neg hx', show wordsA cur [] = if cur = [] then [] else [cur] from rfl]
    split <;> rfl
  | cons r A ih =>
    intro cur B
    rw [List.cons_append, wordsA, wordsA]
    split
    · exact ih _ _
    · split
      · exact ih _ _
      · rw [ih, List.cons_append]
theorem wordsA_marks {M : List Nat} (hM : ∀ x ∈ M, wd x = false) (hn : M ≠ []) : ∀ (cur A B : List Nat), wordsA cur (A ++ (M ++ B)) = wordsA cur A ++ wordsA [] B := by
  induction M with
  | nil => exact absurd rfl hn
  | cons x M ih =>
    intro cur A B
    rw [List.cons_append, wordsA_mark (hM x (by simp))]
    by_cases h : M = []
    · subst h
      rfl
    · have := ih (fun y hy => hM y (by simp [hy])) h [] [] B
      rw [List.nil_append] at this
      rw [this]
      simp [wordsA]
/-- Runes that are changed, words staying words. -/
theorem wordsA_map {f : Nat → Nat} (hf : ∀ r, wd (f r) = wd r) (R : List Nat) : ∀ cur : List Nat, wordsA (cur.map f) (R.map f) = (wordsA cur R).map (List.map f) := by
  induction R with
  | nil =>
    intro cur
    rw [List.map_nil, wordsA, wordsA]
    by_cases h : cur = []
    · subst h; rfl
    · rw [if_neg h, if_neg (by simpa using h)]; rfl
  | cons r R ih =>
    intro cur
    rw [List.map_cons, wordsA, wordsA, hf]
    split
    · rw [show cur.map f ++ [f r] = (cur ++ [r]).map f by simp, ih]
    · have h0 := ih []
      rw [List.map_nil] at h0
      by_cases h : cur = []
      · subst h
        rw [List.map_nil, if_pos rfl, if_pos rfl, h0]
      · rw [if_neg h, if_neg (by simpa using h), h0, List.map_cons]
theorem wd_small (r : Nat) : wd (smallN r) = wd r := by
  unfold wd
  rw [← small_nat, word_small]

/-! ### Inner runs -/
/-- A row with a mark behind it, and something ahead: all its runs are inner ones. -/
theorem runsA_shut {y : Nat} (hy : wd y = false) (R : List Nat) : ∀ cur : List Nat, runsA cur true (R ++ [y]) = (wordsA cur R).map fun c => (c, true) := by
  induction R with
  | nil =>
    intro cur
    have hy' : ¬ wd y = true := by rw [hy]; decide
    rw [List.nil_append, runsA, if_neg hy', wordsA]
    split <;> simp [runsA]
  | cons r R ih =>
    intro cur
    rw [List.cons_append, runsA, wordsA]
    split
    · exact ih _
    · split
      · exact ih _
      · rw [ih, List.map_cons]
/-- Where an inner run stands. -/
theorem inner_at (R : List Nat) : ∀ (cur : List Nat) (st : Bool) (c : List Nat), (∀ r ∈ cur, wd r = true) → (c, true) ∈ runsA cur st R →
    (st = true ∧ ∃ c' y P2, c = cur ++ c' ∧ R = c' ++ y :: P2 ∧ wd y = false ∧ c ≠ [] ∧ ∀ r ∈ c, wd r = true) ∨
    ∃ P1 x y P2, R = P1 ++ x :: (c ++ y :: P2) ∧ wd x = false ∧ wd y = false ∧ c ≠ [] ∧ ∀ r ∈ c, wd r = true := by
  induction R with
  | nil =>
    intro cur st c hc h
    unfold runsA at h
    split at h
    · cases h
    · simp at h
  | cons r R ih =>
    intro cur st c hc h
    unfold runsA at h
    split at h
    · rename_i hr
      have hc' : ∀ x ∈ cur ++ [r], wd x = true := by
        intro x hx
        rcases List.mem_append.1 hx with hx | hx
        · exact hc x hx
        · rw [List.mem_singleton] at hx
          rw [hx]
          exact hr
      rcases ih _ st c hc' h with ⟨h1, c', y, P2, e1, e2, h2⟩ | ⟨P1, x, y, P2, e, h2⟩
      · exact .inl ⟨h1, r :: c', y, P2, by rw [e1]; simp, by rw [e2]; rfl, h2⟩
      · exact .inr ⟨r :: P1, x, y, P2, by rw [e]; rfl, h2⟩
    · rename_i hr
      have hr' : wd r = false := by simpa using hr
      have key : ∀ (h : (c, true) ∈ runsA [] true R), ∃ P1 x y P2, r :: R = P1 ++ x :: (c ++ y :: P2) ∧ wd x = false ∧ wd y = false ∧ c ≠ [] ∧ ∀ r ∈ c, wd r = true := by
        intro h
        rcases ih [] true c (by simp) h with ⟨_, c', y, P2, e1, e2, h2, h3, h4⟩ | ⟨P1, x, y, P2, e, h2⟩
        · exact ⟨[], r, y, P2, by rw [e2, e1]; rfl, hr', h2, h3, h4⟩
        · exact ⟨r :: P1, x, y, P2, by rw [e]; rfl, h2⟩
      split at h
      · exact .inr (key h)
      · rename_i hn
        rcases List.mem_cons.1 h with h | h
        · injection h with e1 e2
          subst e1
          exact .inl ⟨e2.symm, [], r, R, by simp, rfl, hr', hn, hc⟩
        · exact .inr (key h)
/-- An inner run of a part is a run of whatever the part stands in. -/
theorem inner_word {A P C c : List Nat} (h : (c, true) ∈ runsA [] false P) : c ∈ wordsA [] (A ++ (P ++ C)) := by
  rcases inner_at P [] false c (by simp) h with ⟨h1, _⟩ | ⟨P1, x, y, P2, rfl, hx, hy, hn, hw⟩
  · cases h1
  · have e : A ++ ((P1 ++ x :: (c ++ y :: P2)) ++ C) = (A ++ P1) ++ x :: (c ++ y :: (P2 ++ C)) := by simp
    rw [e, wordsA_mark hx, wordsA_mark hy, wordsA_one hw hn]
    simp

/-! ### Over bytes -/
theorem rs_encs {R : List Nat} (h : ∀ r ∈ R, sc r) : rs (encs R) = R := by
  unfold rs
  rw [runes_encs' R h, List.map_map]
  conv => rhs; rw [← List.map_id R]
  rfl
theorem rs_sc (s : List UInt8) : ∀ r ∈ rs s, sc r := by
  intro r hr
  obtain ⟨p, hp, rfl⟩ := List.mem_map.1 hr
  exact runes_sc s p hp
theorem wof_small (c : List Nat) : wof (c.map smallN) = wof c := by
  unfold wof
  rw [← List.map_take, List.map_map]
  congr 1
  exact List.map_congr_left fun r _ => smallN_smallN r
theorem words_fold (s : List UInt8) : words (fold s) = words s := by
  unfold words
  have e : rs (fold s) = (rs s).map smallN := by
    rw [fold_encs, rs_encs (fold_sc s)]
    unfold rs
    rw [List.map_map]
    rfl
  have h := wordsA_map (f := smallN) wd_small (rs s) []
  rw [List.map_nil] at h
  rw [e, h, List.map_map]
  exact List.map_congr_left fun c _ => wof_small c
/-- Each word by itself. -/
theorem wof_self {c : List Nat} (hn : c ≠ []) (hw : ∀ r ∈ c, wd r = true) (hs : ∀ r ∈ c, sc r) : rs (wof c) = (c.take 32).map smallN ∧ (∀ r ∈ rs (wof c), wd r = true) ∧ rs (wof c) ≠ [] ∧ words (wof c) = [wof c] ∧ 1 ≤ cnt (wof c) ∧ cnt (wof c) ≤ 32 := by
  have hs' : ∀ r ∈ (c.take 32).map smallN, sc r := by
    intro r hr
    obtain ⟨x, hx, rfl⟩ := List.mem_map.1 hr
    exact smallN_sc (hs x (List.mem_of_mem_take hx))
  have e : rs (wof c) = (c.take 32).map smallN := rs_encs hs'
  have hw' : ∀ r ∈ (c.take 32).map smallN, wd r = true := by
    intro r hr
    obtain ⟨x, hx, rfl⟩ := List.mem_map.1 hr
    rw [wd_small]
    exact hw x (List.mem_of_mem_take hx)
  have hn' : (c.take 32).map smallN ≠ [] := by
    intro h
    have := congrArg List.length h
    have hp := List.length_pos_iff.2 hn
    rw [List.length_map, List.length_take, List.length_nil] at this
    omega
  refine ⟨e, by rw [e]; exact hw', by rw [e]; exact hn', ?_, ?_, ?_⟩
  · unfold words
    rw [e, wordsA_one hw' hn', List.map_cons, List.map_nil]
    congr 1
    rw [wof_small]
    unfold wof
    rw [List.take_take, Nat.min_self]
  · have h1 : cnt (wof c) = (rs (wof c)).length := by unfold cnt rs; simp
    rw [h1]
    have := List.length_pos_iff.2 (show rs (wof c) ≠ [] by rw [e]; exact hn')
    omega
  · have h1 : cnt (wof c) = (rs (wof c)).length := by unfold cnt rs; simp
    rw [h1, e]
    simp
    omega
theorem wordsA_mem_sc (R : List Nat) : ∀ (cur : List Nat), (∀ r ∈ cur, sc r) → (∀ r ∈ R, sc r) → ∀ c ∈ wordsA cur R, ∀ r ∈ c, sc r := by
  induction R with
  | nil =>
    intro cur hc _ c h
    unfold wordsA at h
    split at h
    · cases h
    · rw [List.mem_singleton] at h
      subst h
      exact hc
  | cons x R ih =>
    intro cur hc hR c h
    have hR' : ∀ r ∈ R, sc r := fun r hr => hR r (by simp [hr])
    unfold wordsA at h
    split at h
    · refine ih _ (fun y hy => ?_) hR' c h
      rcases List.mem_append.1 hy with hy | hy
      · exact hc y hy
      · rw [List.mem_singleton] at hy
        rw [hy]
        exact hR x (by simp)
    · split at h
      · exact ih [] (by simp) hR' c h
      · rcases List.mem_cons.1 h with rfl | h
        · exact hc
        · exact ih [] (by simp) hR' c h
/-- What each word is. -/
theorem words_are (s : List UInt8) : ∀ w ∈ words s, ∃ c, w = wof c ∧ c ≠ [] ∧ (∀ r ∈ c, wd r = true) ∧ ∀ r ∈ c, sc r := by
  intro w hw
  obtain ⟨c, hc, rfl⟩ := List.mem_map.1 hw
  have h := wordsA_all (rs s) [] (by simp) c hc
  exact ⟨c, rfl, h.1, h.2, wordsA_mem_sc (rs s) [] (by simp) (rs_sc s) c hc⟩

/-! ### A byte below 128 between two texts -/
theorem at_app_left {a b : List UInt8} {k : Nat} (h : k < a.length) : at' (a ++ b) k = at' a k := by
  unfold at'
  rw [List.getD_eq_getElem?_getD, List.getD_eq_getElem?_getD, List.getElem?_append_left h]
theorem cont_cut {a t : List UInt8} {x : UInt8} (hx : x.toNat < 128) (k : Nat) : cont (a ++ x :: t) k = true → k ≤ a.length → cont a k = true := by
  intro h hk
  obtain ⟨h1, h2⟩ := cont_cons h
  rcases Nat.lt_or_ge k a.length with hlt | hge
  · unfold cont
    rw [at_app_left hlt] at h2
    simp [hlt, h2]
  · obtain rfl : k = a.length := by omega
    have : at' (a ++ x :: t) a.length = x.toNat := by
      unfold at'
      rw [List.getD_eq_getElem?_getD, List.getElem?_append_right (Nat.le_refl _), Nat.sub_self]
      rfl
    omega
theorem cont_up {a t : List UInt8} {k : Nat} : cont a k = true → cont (a ++ t) k = true := by
  intro h
  obtain ⟨h1, h2⟩ := cont_cons h
  unfold cont
  rw [at_app_left h1]
  simp [h2]
  omega
/-- A text's first rune doesn't hang on what stands behind a byte below 128. -/
theorem dec_cut {a : List UInt8} (ha : a ≠ []) {x : UInt8} (hx : x.toNat < 128) (t : List UInt8) : dec (a ++ x :: t) = dec a := by
  have h0 : at' (a ++ x :: t) 0 = at' a 0 := at_app_left (List.length_pos_iff.2 ha)
  have hlen := List.length_pos_iff.2 ha
  have c1 : cont (a ++ x :: t) 1 = cont a 1 := by
    rw [Bool.eq_iff_iff]
    exact ⟨fun h => cont_cut hx 1 h (by omega), cont_up⟩
  have v1 : cont a 1 = true → at' (a ++ x :: t) 1 = at' a 1 := fun h => at_app_left (cont_cons h).1
  have c2 : cont a 1 = true → cont (a ++ x :: t) 2 = cont a 2 := fun h => by
    have := (cont_cons h).1
    rw [Bool.eq_iff_iff]
    exact ⟨fun h => cont_cut hx 2 h (by omega), cont_up⟩
  have v2 : cont a 2 = true → at' (a ++ x :: t) 2 = at' a 2 := fun h => at_app_left (cont_cons h).1
  have c3 : cont a 2 = true → cont (a ++ x :: t) 3 = cont a 3 := fun h => by
    have := (cont_cons h).1
    rw [Bool.eq_iff_iff]
    exact ⟨fun h => cont_cut hx 3 h (by omega), cont_up⟩
  have v3 : cont a 3 = true → at' (a ++ x :: t) 3 = at' a 3 := fun h => at_app_left (cont_cons h).1
  unfold dec
  rw [h0, c1]
  cases k1 : cont a 1 with
  | false => simp
  | true =>
    rw [v1 k1, c2 k1]
    cases k2 : cont a 2 with
    | false => simp
    | true =>
      rw [v2 k2, c3 k2]
      cases k3 : cont a 3 with
      | false => simp
      | true => rw [v3 k3]
theorem dec_cut_len {a : List UInt8} (ha : a ≠ []) : (dec a).2 ≤ a.length := (dec_len ha).2.1
theorem runes_mark (a : List UInt8) {x : UInt8} (hx : x.toNat < 128) (t : List UInt8) : runes (a ++ x :: t) = runes a ++ (x.toNat, 1) :: runes t := by
  refine by_runes (C := fun a => runes (a ++ x :: t) = runes a ++ (x.toNat, 1) :: runes t) ?_ (fun b l ih => ?_) a
  · have h := runes_enc (r := x.toNat) (.inl (by omega)) t
    rw [enc_one (b0 := x) hx rfl] at h
    rw [runes_nil]
    exact h
  · have h1 := dec_cut (a := b :: l) (by simp) hx t
    have h2 := dec_cut_len (a := b :: l) (by simp)
    rw [runes_cons (l := (b :: l) ++ x :: t) (by simp), runes_cons (l := b :: l) (by simp), h1, List.drop_append_of_le_length h2, ih]
    rfl
theorem words_mark (a t : List UInt8) {x : UInt8} (hx : x.toNat < 128) (hw : wd x.toNat = false) : words (a ++ x :: t) = words a ++ words t := by
  unfold words
  have e : rs (a ++ x :: t) = rs a ++ x.toNat :: rs t := by unfold rs; rw [runes_mark a hx t]; simp
  rw [e, wordsA_mark hw, List.map_append]

/-! ### A valid part of a valid line -/
theorem part_of {L : List Nat} (hL : ∀ r ∈ L, sc r) {i n : Nat} (hi : i + n ≤ (encs L).length) (hv : vals (((encs L).drop i).take n) = true) (hn : 0 < n) :
    ∃ A P C, L = A ++ (P ++ C) ∧ ((encs L).drop i).take n = encs P := by
  rcases place hL (k := i) (by omega) with ⟨a, b, rfl, rfl⟩ | ⟨a, r, b, j, rfl, rfl, h0, h1⟩
  · have hb : ∀ r ∈ b, sc r := fun r hr => hL r (by simp [hr])
    have e : (encs (a ++ b)).drop (encs a).length = encs b := by rw [encs_append, List.drop_left]
    rw [e] at hv ⊢
    rw [encs_append, List.length_append] at hi
    rcases place hb (k := n) (by omega) with ⟨p, q, rfl, rfl⟩ | ⟨p, r, q, j, rfl, rfl, h0, h1⟩
    · exact ⟨a, p, q, rfl, by rw [encs_append, List.take_left]⟩
    · exfalso
      have hp : ∀ r ∈ p, sc r := fun r hr => hb r (by simp [hr])
      have e1 : (encs (p ++ r :: q)).take ((encs p).length + j) = encs p ++ (enc r).take j := by
        rw [encs_append, encs_cons, List.take_append, List.take_of_length_le (by omega), show (encs p).length + j - (encs p).length = j by omega, List.take_append_of_le_length (by omega)]
      rw [e1, vals_part hp, vals_begin (hb r (by simp)) h0 h1] at hv
      cases hv
  · exfalso
    have hr := hL r (by simp)
    obtain ⟨t0, t1⟩ := enc_tail hr h0 h1
    have e : (encs (a ++ r :: b)).drop ((encs a).length + j) = (enc r)[j] :: ((enc r).drop (j + 1) ++ encs b) := by
      rw [encs_append, encs_cons, List.drop_append, List.drop_eq_nil_of_le (by omega), show (encs a).length + j - (encs a).length = j by omega, List.drop_append_of_le_length (by omega), List.nil_append, List.drop_eq_getElem_cons h1]
      rfl
    obtain ⟨m, rfl⟩ : ∃ m, n = m + 1 := ⟨n - 1, by omega⟩
    rw [e, List.take_succ_cons, vals_later _ t0 t1] at hv
    cases hv
/-- The inner words of a valid part of a valid line are words of the line. -/
theorem inner_sub {line : List UInt8} (hl : vals line = true) {i n : Nat} (hi : i + n ≤ line.length) (hv : vals ((line.drop i).take n) = true) : ∀ w ∈ inners ((line.drop i).take n), w ∈ words line := by
  obtain ⟨L, hL, rfl⟩ := vals_of line hl
  rcases Nat.eq_zero_or_pos n with rfl | hn
  · intro w hw
    rw [List.take_zero] at hw
    simp [inners, rs, runes_nil, runsA] at hw
  · obtain ⟨A, P, C, rfl, e⟩ := part_of hL hi hv hn
    have hP : ∀ r ∈ P, sc r := fun r hr => hL r (by simp [hr])
    intro w hw
    rw [e] at hw
    unfold inners at hw
    rw [rs_encs hP] at hw
    obtain ⟨⟨c, b⟩, hc, rfl⟩ := List.mem_map.1 hw
    obtain ⟨h1, h2⟩ := List.mem_filter.1 hc
    simp only at h2
    subst h2
    unfold words
    rw [rs_encs hL]
    exact List.mem_map.2 ⟨c, inner_word h1, rfl⟩
/-- With a mark on both sides all words are inner ones. -/
theorem inners_marks (s : List UInt8) {x y : UInt8} (hx : x.toNat < 128) (hy : y.toNat < 128) (wx : wd x.toNat = false) (wy : wd y.toNat = false) : inners (x :: (s ++ [y])) = words s := by
  have e : rs (x :: (s ++ [y])) = x.toNat :: (rs s ++ [y.toNat]) := by
    unfold rs
    have h1 := runes_mark [] hx (s ++ [y])
    rw [List.nil_append, runes_nil, List.nil_append] at h1
    rw [h1, runes_mark s hy []]
    simp [runes_nil]
  unfold inners words
  have wx' : ¬ wd x.toNat = true := by rw [wx]; decide
  rw [e, runsA, if_neg wx', if_pos rfl, runsA_shut wy]
  rw [List.filter_map, List.map_map]
  congr 1
  rw [List.filter_eq_self]
  intro c _
  rfl
end Go.Proofs.Ytebdolfcemplnaa.TxSpec
