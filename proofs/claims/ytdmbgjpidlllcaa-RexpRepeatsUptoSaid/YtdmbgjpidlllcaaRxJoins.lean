/- A text that is parsed is parsed likewise with another text behind it. Of no program. No conditions. · Patterns laid together: in parentheses, one behind the other, as alternatives, with a repetition. Of no program. No conditions. · A class of single runes: what it has, and that its pairs rise with gaps between them. Of no program. No conditions. · What the program's classes are, in plain words: pairs in order are joined, gaps are filled; what the members of a class are made of. Of no program. No conditions but those that the theorems name. -/
import Derived.Test.YtdmbgjpidlllcaaRxSpecs
import Derived.Test.YtdmbgjpidlllcaaRxTrees
import Derived.Test.YtdmbgjpidlllcaaRxHass
namespace Go.Proofs.Ytdmbgjpidlllcaa.RxSuf
open RxSpec RxEq

theorem hd_app {r t : List Nat} {c : Nat} (h : r ≠ []) : hd (r ++ t) c = hd r c := by
  cases r with
  | nil => exact absurd rfl h
  | cons a l => rfl
theorem tail_app {r t : List Nat} (h : r ≠ []) : (r ++ t).tail = r.tail ++ t := by
  cases r with
  | nil => exact absurd rfl h
  | cons a l => rfl
theorem ne_hd {r : List Nat} {c : Nat} (h : hd r c = true) : r ≠ [] := by
  intro e
  subst e
  cases h
/-- What stands behind an item ends it. -/
def Q (t : List Nat) : Prop := hd t 41 = true ∨ hd t 124 = true
theorem Q.no {t : List Nat} (h : Q t) {c : Nat} (h1 : c ≠ 41) (h2 : c ≠ 124) : hd t c = false := by
  cases t with
  | nil => rfl
  | cons a l =>
    unfold Q at h
    rw [hd_cons, hd_cons] at h
    rw [hd_cons]
    simp only [beq_iff_eq] at h
    simp only [beq_eq_false_iff_ne]
    omega
theorem esc_suf {rs m r1 t : List Nat} (h : esc rs = some (m, r1)) : esc (rs ++ t) = some (m, r1 ++ t) := by
  cases rs with
  | nil => simp [esc] at h
  | cons r l =>
    rw [List.cons_append]
    rw [esc_cons] at h ⊢
    repeat' split at h
    all_goals first | (cases h; done) | (simp only [Option.some.injEq, Prod.mk.injEq] at h; obtain ⟨rfl, rfl⟩ := h; simp_all)
theorem member_suf {rs m r1 t : List Nat} (h : member rs = some (m, r1)) : member (rs ++ t) = some (m, r1 ++ t) := by
  cases rs with
  | nil => simp [member] at h
  | cons r l =>
    rw [List.cons_append]
    rw [member_cons] at h ⊢
    split at h
    · rename_i h1
      rw [if_pos h1]
      exact esc_suf h
    split at h
    · cases h
    · rename_i h1 h2
      rw [if_neg h1, if_neg h2]
      simp only [Option.some.injEq, Prod.mk.injEq] at h
      rw [← h.1, ← h.2]
theorem digit_suf {rs t r1 : List Nat} {n : Nat} (h : digit rs = some (n, r1)) : digit (rs ++ t) = some (n, r1 ++ t) := by
  cases rs with
  | nil => simp [digit] at h
  | cons r l =>
    rw [List.cons_append]
    rw [digit_cons] at h ⊢
    split at h
    · rename_i h1
      rw [if_pos h1]
      simp only [Option.some.injEq, Prod.mk.injEq] at h
      rw [← h.1, ← h.2]
    · cases h
theorem piece_suf {rs m r1 t : List Nat} (h : piece rs = some (m, r1)) (hr : r1 ≠ []) : piece (rs ++ t) = some (m, r1 ++ t) := by
  unfold piece at h ⊢
  cases hm : member rs with
  | none => rw [hm] at h; cases h
  | some x =>
    obtain ⟨m0, r0⟩ := x
    rw [hm] at h
    rw [member_suf hm]
    simp only at h ⊢
    have h0 : r0 ≠ [] := by
      rintro rfl
      rw [if_neg (by simp [hd_nil])] at h
      cases h
      exact hr rfl
    rw [hd_app h0, tail_app h0]
    split at h
    · rename_i h1
      rw [if_pos h1]
      cases hk : member r0.tail with
      | none => rw [hk] at h; cases h
      | some y =>
        obtain ⟨k0, r2⟩ := y
        rw [hk] at h
        rw [member_suf hk]
        simp only at h ⊢
        cases hf : fromTo m0 k0 with
        | none => rw [hf] at h; cases h
        | some z => rw [hf] at h; cases h; rfl
    · rename_i h1
      rw [if_neg h1]
      cases h
      rfl
theorem classL_suf : ∀ (N : Nat) (set : List Nat) (first : Bool) (rs s r1 t : List Nat), rs.length ≤ N → classL set first rs = some (s, r1) → classL set first (rs ++ t) = some (s, r1 ++ t)
  | N, set, first, rs, s, r1, t, hN, h => by
    rw [classL_eq] at h ⊢
    have hne : rs ≠ [] := by
      rintro rfl
      simp [hd_nil, piece, member] at h
    rw [hd_app hne, tail_app hne]
    split at h
    · rename_i hc
      rw [if_pos hc]
      cases h
      rfl
    · rename_i hc
      rw [if_neg hc]
      cases hp : piece rs with
      | none => rw [hp] at h; cases h
      | some x =>
        obtain ⟨m, r2⟩ := x
        rw [hp] at h
        simp only at h
        have h1 := piece_short hp
        have h2 : r2 ≠ [] := by
          rintro rfl
          rw [classL_eq] at h
          simp [hd_nil, piece, member] at h
        rw [piece_suf hp h2]
        match N, hN with
        | 0, hN => omega
        | N + 1, hN => exact classL_suf N _ _ r2 _ _ _ (by omega) h
theorem cls_suf {rs r1 t : List Nat} {p : Pat} (h : cls rs = some (p, r1)) : cls (rs ++ t) = some (p, r1 ++ t) := by
  have hne : rs ≠ [] := by
    rintro rfl
    unfold cls at h
    rw [hd_nil] at h
    rw [classL_eq] at h
    simp [hd_nil, piece, member] at h
  unfold cls at h ⊢
  rw [hd_app hne, tail_app hne]
  split at h
  · cases h
  · rename_i s _ hc
    cases h
    have key : classL [] true (if hd rs 94 = true then rs.tail ++ t else rs ++ t) = some (s, r1 ++ t) := by
      have := classL_suf _ _ _ _ _ _ t (Nat.le_refl _) hc
      split
      · rename_i h1; rw [if_pos h1] at this; exact this
      · rename_i h1; rw [if_neg h1] at this; exact this
    rw [key]
theorem repS_suf {p q : Pat} {rs r1 t : List Nat} (h : repS p rs = some (q, r1)) (ht : r1 ≠ [] ∨ Q t) : repS p (rs ++ t) = some (q, r1 ++ t) := by
  by_cases h0 : rs = []
  · subst h0
    have hq : Q t := by
      rcases ht with h1 | h1
      · simp [repS, hd_nil] at h
        exact absurd h.2.symm (by simpa using h1)
      · exact h1
    simp [repS, hd_nil] at h
    obtain ⟨rfl, rfl⟩ := h
    rw [List.nil_append]
    unfold repS
    rw [hq.no (by decide) (by decide), hq.no (by decide) (by decide), hq.no (by decide) (by decide), hq.no (by decide) (by decide)]
    rfl
  unfold repS at h ⊢
  rw [hd_app h0, hd_app h0, hd_app h0, hd_app h0, tail_app h0]
  split at h
  · rename_i h1; rw [if_pos h1]; cases h; rfl
  rename_i h1; rw [if_neg h1]
  split at h
  · rename_i h1; rw [if_pos h1]; cases h; rfl
  rename_i h1; rw [if_neg h1]
  split at h
  · rename_i h1
    rw [if_pos h1]
    cases hl : digit rs.tail with
    | none => rw [hl] at h; cases h
    | some x =>
      obtain ⟨lo, r2⟩ := x
      rw [hl] at h
      rw [digit_suf hl]
      simp only at h ⊢
      have h2 : r2 ≠ [] := by
        rintro rfl
        rw [if_neg (by simp [hd_nil])] at h
        simp only at h
        rw [if_neg (by simp [hd_nil])] at h
        cases h
      rw [hd_app h2, tail_app h2]
      cases hh : (if hd r2 44 = true then digit r2.tail else some (lo, r2)) with
      | none => rw [hh] at h; cases h
      | some y =>
        obtain ⟨hi, r3⟩ := y
        rw [hh] at h
        simp only at h
        have key : (if hd r2 44 = true then digit (r2.tail ++ t) else some (lo, r2 ++ t)) = some (hi, r3 ++ t) := by
          split at hh
          · rename_i h5; rw [if_pos h5]; exact digit_suf hh
          · rename_i h5; rw [if_neg h5]; cases hh; rfl
        rw [key]
        simp only
        have h3 : r3 ≠ [] := by
          rintro rfl
          rw [if_neg (by simp [hd_nil])] at h
          cases h
        rw [hd_app h3, tail_app h3]
        split at h
        · rename_i h6; rw [if_pos h6]; cases h; rfl
        · cases h
  rename_i h1; rw [if_neg h1]
  split at h
  · rename_i h1; rw [if_pos h1]; cases h; rfl
  · rename_i h1; rw [if_neg h1]; cases h; rfl
/-- With another text behind. -/
theorem all_suf (t : List Nat) : ∀ N : Nat, (∀ rs p k r1, rs.length ≤ N → atomS rs = some (p, k, r1) → atomS (rs ++ t) = some (p, k, r1 ++ t)) ∧
    (∀ rs p k r1, rs.length ≤ N → itemS rs = some (p, k, r1) → (r1 ≠ [] ∨ Q t) → itemS (rs ++ t) = some (p, k, r1 ++ t)) ∧
    (∀ ps k0 rs p k r1, rs.length ≤ N → rowL ps k0 rs = some (p, k, r1) → (r1 ≠ [] ∨ Q t) → rowL ps k0 (rs ++ t) = some (p, k, r1 ++ t)) ∧
    (∀ ps k0 rs p k r1, rs.length ≤ N → altL ps k0 rs = some (p, k, r1) → (r1 ≠ [] ∨ hd t 41 = true) → altL ps k0 (rs ++ t) = some (p, k, r1 ++ t)) ∧
    (∀ rs p k r1, rs.length ≤ N → altS rs = some (p, k, r1) → (r1 ≠ [] ∨ hd t 41 = true) → altS (rs ++ t) = some (p, k, r1 ++ t)) := by
  intro N
  induction N using Nat.strongRecOn with
  | _ N ih =>
  have hatom : ∀ rs p k r1, rs.length ≤ N → atomS rs = some (p, k, r1) → atomS (rs ++ t) = some (p, k, r1 ++ t) := by
    intro rs p k r1 hN h
    cases rs with
    | nil => rw [atomS] at h; cases h
    | cons r l =>
      rw [List.cons_append]
      rw [atomS] at h ⊢
      simp only [List.length_cons] at hN
      split at h
      · rename_i h1
        rw [if_pos h1]
        cases ha : altS l with
        | none => rw [ha] at h; cases h
        | some x =>
          obtain ⟨q, k1, r2⟩ := x
          rw [ha] at h
          simp only at h
          split at h
          · rename_i h2
            have h3 := ne_hd h2
            rw [(ih l.length (by omega)).2.2.2.2 l q k1 r2 (Nat.le_refl _) ha (.inl h3)]
            simp only
            rw [hd_app h3, tail_app h3, if_pos h2]
            cases h
            rfl
          · cases h
      rename_i h1; rw [if_neg h1]
      split at h
      · rename_i h1
        rw [if_pos h1]
        cases hc : cls l with
        | none => rw [hc] at h; cases h
        | some x => rw [hc] at h; obtain ⟨x1, x2⟩ := x; rw [cls_suf hc]; cases h; rfl
      rename_i h1; rw [if_neg h1]
      split at h
      · rename_i h1; rw [if_pos h1]; cases h; rfl
      rename_i h1; rw [if_neg h1]
      split at h
      · rename_i h1; rw [if_pos h1]; cases h; rfl
      rename_i h1; rw [if_neg h1]
      split at h
      · rename_i h1; rw [if_pos h1]; cases h; rfl
      rename_i h1; rw [if_neg h1]
      split at h
      · rename_i h1
        rw [if_pos h1]
        cases hc : esc l with
        | none => rw [hc] at h; cases h
        | some x => rw [hc] at h; obtain ⟨x1, x2⟩ := x; rw [esc_suf hc]; cases h; rfl
      rename_i h1; rw [if_neg h1]
      split at h
      · cases h
      · rename_i h1; rw [if_neg h1]; cases h; rfl
  have hitem : ∀ rs p k r1, rs.length ≤ N → itemS rs = some (p, k, r1) → (r1 ≠ [] ∨ Q t) → itemS (rs ++ t) = some (p, k, r1 ++ t) := by
    intro rs p k r1 hN h ht
    rw [itemS] at h ⊢
    cases ha : atomS rs with
    | none => rw [ha] at h; cases h
    | some x =>
      obtain ⟨q, k1, r2⟩ := x
      rw [ha] at h
      rw [hatom rs q k1 r2 hN ha]
      simp only at h ⊢
      cases hr : repS q r2 with
      | none => rw [hr] at h; cases h
      | some y =>
        obtain ⟨q2, r3⟩ := y
        rw [hr] at h
        cases h
        rw [repS_suf hr ht]
        rfl
  have hrow : ∀ ps k0 rs p k r1, rs.length ≤ N → rowL ps k0 rs = some (p, k, r1) → (r1 ≠ [] ∨ Q t) → rowL ps k0 (rs ++ t) = some (p, k, r1 ++ t) := by
    intro ps k0 rs p k r1 hN h ht
    by_cases h0 : rs = []
    · subst h0
      rw [rowL_eq, if_pos (.inl rfl)] at h
      cases h
      have hq : Q t := by
        rcases ht with h1 | h1
        · exact absurd rfl h1
        · exact h1
      rw [List.nil_append, rowL_eq, if_pos]
      rcases hq with h1 | h1
      · exact .inr (.inr h1)
      · exact .inr (.inl h1)
    rw [rowL_eq] at h ⊢
    rw [hd_app h0, hd_app h0]
    split at h
    · rename_i h1
      rw [if_pos]
      · cases h; rfl
      · rcases h1 with h2 | h2
        · exact absurd h2 h0
        · exact .inr h2
    · rename_i h1
      rw [if_neg (fun h2 => h1 (by
        rcases h2 with h3 | h3
        · exact absurd (List.append_eq_nil_iff.1 h3).1 h0
        · exact .inr h3))]
      cases hi : itemS rs with
      | none => rw [hi] at h; cases h
      | some x =>
        obtain ⟨q, k1, r2⟩ := x
        rw [hi] at h
        simp only at h
        have hs := item_short hi
        have h2 : r2 ≠ [] ∨ Q t := by
          by_cases h3 : r2 = []
          · subst h3
            right
            rw [rowL_eq, if_pos (.inl rfl)] at h
            cases h
            rcases ht with h4 | h4
            · exact absurd rfl h4
            · exact h4
          · exact .inl h3
        rw [hitem rs q k1 r2 hN hi h2]
        exact (ih r2.length (by omega)).2.2.1 _ _ r2 p k r1 (Nat.le_refl _) h ht
  have haltL : ∀ ps k0 rs p k r1, rs.length ≤ N → altL ps k0 rs = some (p, k, r1) → (r1 ≠ [] ∨ hd t 41 = true) → altL ps k0 (rs ++ t) = some (p, k, r1 ++ t) := by
    intro ps k0 rs p k r1 hN h ht
    by_cases h0 : rs = []
    · subst h0
      rw [altL_eq, hd_nil, if_neg (by decide)] at h
      cases h
      have hq : hd t 41 = true := by
        rcases ht with h1 | h1
        · exact absurd rfl h1
        · exact h1
      rw [List.nil_append, altL_eq, if_neg]
      cases t with
      | nil => cases hq
      | cons a l =>
        rw [hd_cons] at hq ⊢
        simp at hq ⊢
        omega
    rw [altL_eq] at h ⊢
    rw [hd_app h0, tail_app h0]
    split at h
    · rename_i h1
      rw [if_pos h1]
      cases hi : rowL [] 0 rs.tail with
      | none => rw [hi] at h; cases h
      | some x =>
        obtain ⟨q, k1, r2⟩ := x
        rw [hi] at h
        simp only at h
        have hs := row_short hi
        have hs2 := hd_tail h1
        have h2 : r2 ≠ [] ∨ Q t := by
          by_cases h3 : r2 = []
          · subst h3
            right
            rw [altL_eq, hd_nil, if_neg (by decide)] at h
            cases h
            rcases ht with h4 | h4
            · exact absurd rfl h4
            · exact .inl h4
          · exact .inl h3
        rw [(ih rs.tail.length (by omega)).2.2.1 _ _ rs.tail q k1 r2 (Nat.le_refl _) hi h2]
        exact (ih r2.length (by omega)).2.2.2.1 _ _ r2 p k r1 (Nat.le_refl _) h ht
    · rename_i h1
      rw [if_neg h1]
      cases h
      rfl
  refine ⟨hatom, hitem, hrow, haltL, ?_⟩
  intro rs p k r1 hN h ht
  rw [altS_eq] at h ⊢
  cases hi : rowL [] 0 rs with
  | none => rw [hi] at h; cases h
  | some x =>
    obtain ⟨q, k1, r2⟩ := x
    rw [hi] at h
    simp only at h
    have hs := row_short hi
    have h2 : r2 ≠ [] ∨ Q t := by
      by_cases h3 : r2 = []
      · subst h3
        right
        rw [altL_eq, hd_nil, if_neg (by decide)] at h
        cases h
        rcases ht with h4 | h4
        · exact absurd rfl h4
        · exact .inl h4
      · exact .inl h3
    rw [hrow _ _ rs q k1 r2 hN hi h2]
    exact haltL _ _ r2 p k r1 (by omega) h ht
theorem alt_suf {rs t : List Nat} {p : Pat} {k : Nat} {r1 : List Nat} (h : altS rs = some (p, k, r1)) (ht : r1 ≠ [] ∨ hd t 41 = true) : altS (rs ++ t) = some (p, k, r1 ++ t) := (all_suf t _).2.2.2.2 rs p k r1 (Nat.le_refl _) h ht
theorem row_suf {ps : List Pat} {k0 : Nat} {rs t : List Nat} {p : Pat} {k : Nat} {r1 : List Nat} (h : rowL ps k0 rs = some (p, k, r1)) (ht : r1 ≠ [] ∨ Q t) : rowL ps k0 (rs ++ t) = some (p, k, r1 ++ t) := (all_suf t _).2.2.1 ps k0 rs p k r1 (Nat.le_refl _) h ht
/-- A pattern in parentheses, as an atom. -/
theorem paren {s t : List Nat} {p : Pat} {k : Nat} (h : altS s = some (p, k, [])) : atomS (40 :: (s ++ 41 :: t)) = some (p, k + 1, t) := by
  rw [atomS, if_pos rfl, alt_suf h (t := 41 :: t) (.inr rfl)]
  rfl
end Go.Proofs.Ytdmbgjpidlllcaa.RxSuf

namespace Go.Proofs.Ytdmbgjpidlllcaa.RxJoinP
open RxSpec RxEq RxTree RxSuf RxText

/-- A node whose kids are so much further on. -/
def mvNd (b : Nat) (nd : Nd) : Nd := { nd with kids := nd.kids.map (· + b) }
mutual
theorem emit_mv (b : Nat) : ∀ (p : Pat) (a : Nat), emit p (a + b) = (emit p a).map (mvNd b)
  | .empty, a => by simp [emit, mvNd]
  | .set l, a => by simp [emit, mvNd]
  | .bol, a => by simp [emit, mvNd]
  | .eol, a => by simp [emit, mvNd]
  | .seq l, a => by simp [emit, mvNd, emits_mv b l a, roots_mv b l a]
  | .alt l, a => by simp [emit, mvNd, emits_mv b l a, roots_mv b l a]
  | .rep p lo hi, a => by
    have h := emit_pos p a
    simp only [emit, emit_mv b p a, List.map_append, List.length_map, List.map_cons, List.map_nil, mvNd]
    congr 4
    omega
theorem emits_mv (b : Nat) : ∀ (l : List Pat) (a : Nat), emits l (a + b) = (emits l a).map (mvNd b)
  | [], a => rfl
  | p :: l, a => by
    rw [emits, emits, List.map_append, emit_mv b p a, List.length_map, ← emits_mv b l]
    congr 2
    omega
theorem roots_mv (b : Nat) : ∀ (l : List Pat) (a : Nat), roots l (a + b) = (roots l a).map (· + b)
  | [], a => rfl
  | p :: l, a => by
    have h := emit_pos p a
    rw [roots, roots, List.map_cons, emit_mv b p a, List.length_map, ← roots_mv b l]
    congr 1
    · omega
    · congr 1
      omega
end
theorem emit_at (p : Pat) (b : Nat) : emit p b = (emit p 0).map (mvNd b) := by
  have := emit_mv b p 0
  rwa [Nat.zero_add] at this

theorem item_paren {s X : List Nat} {p : Pat} {k : Nat} (h : altS s = some (p, k, [])) : itemS (40 :: (s ++ 41 :: X)) = (repS p X).map fun x => (x.1, k + 1, x.2) := by
  rw [itemS, paren h]
theorem rep_nil (p : Pat) : repS p [] = some (p, []) := by simp [repS, hd_nil]
theorem rep_paren (p : Pat) (t : List Nat) : repS p (40 :: t) = some (p, 40 :: t) := by simp [repS, hd_cons]
theorem row_nil (ps : List Pat) (k : Nat) : rowL ps k [] = some (mkRow ps, k, []) := by rw [rowL_eq, if_pos (.inl rfl)]
theorem altL_nil (ps : List Pat) (k : Nat) : altL ps k [] = some (mkAlt ps, k, []) := by rw [altL_eq, hd_nil, if_neg (by decide)]
theorem row_paren {ps : List Pat} {k0 : Nat} (t : List Nat) : rowL ps k0 (40 :: t) = match itemS (40 :: t) with
    | none => none
    | some (p, k', r1) => rowL (ps ++ [p]) (max k0 k') r1 := by
  rw [rowL_eq, if_neg (by rw [hd_cons, hd_cons]; simp)]
  cases itemS (40 :: t) <;> rfl
theorem alt_of_row {rs : List Nat} {p : Pat} {k : Nat} (h : rowL [] 0 rs = some (p, k, [])) : altS rs = some (p, k, []) := by
  rw [altS_eq, h]
  exact altL_nil _ _
/-- A pattern in parentheses. -/
theorem alt_one {s : List Nat} {p : Pat} {k : Nat} (h : altS s = some (p, k, [])) : altS (40 :: (s ++ [41])) = some (p, k + 1, []) := by
  refine alt_of_row ?_
  rw [row_paren, item_paren h, rep_nil]
  rw [Option.map_some]; simp only
  rw [List.nil_append, row_nil, Nat.zero_max]
  rfl
/-- Two, one behind the other, in parentheses. -/
theorem alt_two {s t : List Nat} {p q : Pat} {k j : Nat} (h : altS s = some (p, k, [])) (h2 : altS t = some (q, j, [])) : altS (40 :: (s ++ 41 :: (40 :: (t ++ [41])))) = some (.seq [p, q], max (k + 1) (j + 1), []) := by
  refine alt_of_row ?_
  rw [row_paren, item_paren h, rep_paren]
  rw [Option.map_some]; simp only
  rw [List.nil_append, row_paren, item_paren h2, rep_nil]
  rw [Option.map_some]; simp only
  rw [row_nil, Nat.zero_max]
  rfl
theorem altL_many : ∀ (N : Nat) (ps : List Pat) (k : Nat) (rs : List Nat) (p : Pat) (k' : Nat) (r1 : List Nat), rs.length ≤ N → 2 ≤ ps.length → altL ps k rs = some (p, k', r1) → kindOf p = 4
  | N, ps, k, rs, p, k', r1, hN, hp, h => by
    rw [altL_eq] at h
    split at h
    · rename_i h1
      have h2 := hd_tail h1
      cases hi : rowL [] 0 rs.tail with
      | none => rw [hi] at h; cases h
      | some x =>
        obtain ⟨q, k1, r2⟩ := x
        rw [hi] at h
        simp only at h
        have h3 := row_short hi
        match N, hN with
        | 0, hN => omega
        | N + 1, hN => exact altL_many N _ _ r2 _ _ _ (by omega) (by simp; omega) h
    · cases h
      match ps, hp with
      | [], hp => simp at hp
      | [a], hp => simp at hp
      | a :: b :: l, _ => rfl
/-- A pattern that is no alternative is one row. -/
theorem row_of_alt {rs : List Nat} {p : Pat} {k : Nat} (h : altS rs = some (p, k, [])) (hk : kindOf p ≠ 4) : rowL [] 0 rs = some (p, k, []) := by
  rw [altS_eq] at h
  cases hi : rowL [] 0 rs with
  | none => rw [hi] at h; cases h
  | some x =>
    obtain ⟨q, k1, r2⟩ := x
    rw [hi] at h
    simp only at h
    rw [altL_eq] at h
    split at h
    · cases hi2 : rowL [] 0 r2.tail with
      | none => rw [hi2] at h; cases h
      | some y =>
        obtain ⟨q2, k2, r3⟩ := y
        rw [hi2] at h
        exact absurd (altL_many _ _ _ _ _ _ _ (Nat.le_refl _) (by simp) h) hk
    · cases h
      rfl
/-- Two, with | between them. -/
theorem alt_bar {s t : List Nat} {p q : Pat} {k j : Nat} (h : altS s = some (p, k, [])) (h2 : altS t = some (q, j, [])) (hp : kindOf p ≠ 4) (hq : kindOf q ≠ 4) : altS (s ++ 124 :: t) = some (.alt [p, q], max k j, []) := by
  rw [altS_eq, row_suf (row_of_alt h hp) (t := 124 :: t) (.inr (.inr rfl)), List.nil_append]
  simp only
  rw [altL_eq, if_pos (by rfl), List.tail_cons, row_of_alt h2 hq]
  simp only
  rw [altL_nil]
  rfl
/-- One in parentheses with a repetition, or what is none, behind it. -/
theorem alt_rep {s X : List Nat} {p : Pat} {k : Nat} (h : altS s = some (p, k, [])) {q : Pat} (hX : repS p X = some (q, [])) : altS (40 :: (s ++ 41 :: X)) = some (q, k + 1, []) := by
  refine alt_of_row ?_
  rw [row_paren, item_paren h, hX]
  rw [Option.map_some]; simp only
  rw [List.nil_append, row_nil, Nat.zero_max]
  rfl
theorem alt_none {s X : List Nat} {p : Pat} {k : Nat} (h : altS s = some (p, k, [])) (hX : repS p X = none) : altS (40 :: (s ++ 41 :: X)) = none := by
  rw [altS_eq, row_paren, item_paren h, hX]
  rfl
theorem item_star (t : List Nat) : itemS (42 :: t) = none := by
  rw [itemS, atomS]
  rfl
theorem alt_again {s X : List Nat} {p : Pat} {k : Nat} (h : altS s = some (p, k, [])) {q : Pat} (hX : repS p X = some (q, [42])) : altS (40 :: (s ++ 41 :: X)) = none := by
  rw [altS_eq, row_paren, item_paren h, hX]
  rw [Option.map_some]; simp only
  rw [rowL_eq, if_neg (by simp [hd_cons]), item_star]

/-! ### In bytes -/
theorem enc40 : UtSpec.enc 40 = [40] := enc_low (by decide)
theorem enc41 : UtSpec.enc 41 = [41] := enc_low (by decide)
theorem enc124 : UtSpec.enc 124 = [124] := enc_low (by decide)
theorem encs_nil : UtSpec.encs [] = [] := rfl
theorem kind_root {l : List Nd} {p : Pat} (h : l = emit p 0) : ∃ hx : l.length - 1 < l.length, (l[l.length - 1]).kind = kindOf p := by
  subst h
  have h := emit_pos p 0
  refine ⟨by omega, ?_⟩
  have e := emit_eq p 0
  have key : ∀ (m : List Nd), m = emits (kidsOf p) 0 ++ [ownNd p 0] → ∀ hx : m.length - 1 < m.length, (m[m.length - 1]).kind = kindOf p := by
    rintro m rfl hx
    rw [List.getElem_append_right (by simp)]
    simp [ownNd]
  exact key _ e (by omega)
/-- A pattern's tree is small. -/
theorem text_few {s : List UInt8} {l : List Nd} (h : parseT s = (0, l)) : 1 ≤ l.length ∧ l.length ≤ 1000 := by
  obtain ⟨R, p, k, hR, rfl, _, ha, hk, hz, rfl⟩ := text_ok h
  have h1 := emit_le p 0
  have h2 := emit_pos p 0
  omega
theorem roots_lt : ∀ (l : List Pat) (b : Nat), (∀ y ∈ roots l b, y < b + (emits l b).length) ∧ l.length ≤ (emits l b).length
  | [], b => ⟨(fun y h => by simp [roots] at h), Nat.zero_le _⟩
  | p :: l, b => by
    obtain ⟨h1, h2⟩ := roots_lt l (b + (emit p b).length)
    have h3 := emit_pos p b
    rw [emits, List.length_append, List.length_cons]
    refine ⟨fun y hy => ?_, by omega⟩
    rw [roots] at hy
    rcases List.mem_cons.1 hy with rfl | hy
    · omega
    · have := h1 y hy
      omega
mutual
theorem kids_lt : ∀ (p : Pat) (b : Nat), ∀ nd ∈ emit p b, (∀ y ∈ nd.kids, y < b + (emit p b).length) ∧ nd.kids.length ≤ (emit p b).length
  | .empty, b => by intro nd h; simp [emit] at h; subst h; exact ⟨(fun y h => by simp at h), by simp⟩
  | .set l, b => by intro nd h; simp [emit] at h; subst h; exact ⟨(fun y h => by simp at h), by simp⟩
  | .bol, b => by intro nd h; simp [emit] at h; subst h; exact ⟨(fun y h => by simp at h), by simp⟩
  | .eol, b => by intro nd h; simp [emit] at h; subst h; exact ⟨(fun y h => by simp at h), by simp⟩
  | .seq l, b => by
    intro nd h
    rw [emit] at h ⊢
    rw [List.length_append]
    rcases List.mem_append.1 h with h | h
    · obtain ⟨h1, h2⟩ := kidss_lt l b nd h
      exact ⟨fun y hy => by have := h1 y hy; simp; omega, by simp; omega⟩
    · obtain rfl := List.mem_singleton.1 h
      obtain ⟨h1, h2⟩ := roots_lt l b
      exact ⟨fun y hy => by have := h1 y hy; simp; omega, by simp [roots_len]; omega⟩
  | .alt l, b => by
    intro nd h
    rw [emit] at h ⊢
    rw [List.length_append]
    rcases List.mem_append.1 h with h | h
    · obtain ⟨h1, h2⟩ := kidss_lt l b nd h
      exact ⟨fun y hy => by have := h1 y hy; simp; omega, by simp; omega⟩
    · obtain rfl := List.mem_singleton.1 h
      obtain ⟨h1, h2⟩ := roots_lt l b
      exact ⟨fun y hy => by have := h1 y hy; simp; omega, by simp [roots_len]; omega⟩
  | .rep p lo hi, b => by
    intro nd h
    have h3 := emit_pos p b
    rw [emit] at h ⊢
    rw [List.length_append]
    rcases List.mem_append.1 h with h | h
    · obtain ⟨h1, h2⟩ := kids_lt p b nd h
      exact ⟨fun y hy => by have := h1 y hy; simp; omega, by simp; omega⟩
    · obtain rfl := List.mem_singleton.1 h
      exact ⟨fun y hy => by simp at hy; subst hy; simp; omega, by simp⟩
theorem kidss_lt : ∀ (l : List Pat) (b : Nat), ∀ nd ∈ emits l b, (∀ y ∈ nd.kids, y < b + (emits l b).length) ∧ nd.kids.length ≤ (emits l b).length
  | [], b => by intro nd h; simp [emits] at h
  | p :: l, b => by
    intro nd h
    rw [emits] at h ⊢
    rw [List.length_append]
    rcases List.mem_append.1 h with h | h
    · obtain ⟨h1, h2⟩ := kids_lt p b nd h
      exact ⟨fun y hy => by have := h1 y hy; omega, by omega⟩
    · obtain ⟨h1, h2⟩ := kidss_lt l _ nd h
      exact ⟨fun y hy => by have := h1 y hy; omega, by omega⟩
end
theorem text_kids {s : List UInt8} {l : List Nd} (h : parseT s = (0, l)) : ∀ nd ∈ l, nd.kids.length ≤ 1000000 ∧ ∀ y ∈ nd.kids, y ≤ 1000000 := by
  have hf := text_few h
  obtain ⟨R, p, k, hR, rfl, _, ha, hk, hz, rfl⟩ := text_ok h
  intro nd hnd
  obtain ⟨h1, h2⟩ := kids_lt p 0 nd hnd
  exact ⟨by omega, fun y hy => by have := h1 y hy; omega⟩
/-- In parentheses. -/
theorem text_one {s : List UInt8} {l : List Nd} (h : parseT s = (0, l)) {y : Nat} {m : List Nd} (h2 : parseT (40 :: (s ++ [41])) = (y, m)) : (y = 0 ∧ m = l) ∨ y = 4 ∨ y = 9 := by
  obtain ⟨R, p, k, hR, rfl, _, ha, hk, hz, rfl⟩ := text_ok h
  have e : (40 :: (UtSpec.encs R ++ [41]) : List UInt8) = UtSpec.encs (40 :: (R ++ [41])) := by
    rw [UtSpec.encs_cons, UtSpec.encs_append, UtSpec.encs_cons, enc40, enc41, encs_nil]; rfl
  rw [e, text_encs (by
    intro r hr
    rcases List.mem_cons.1 hr with rfl | hr
    · exact sc_low (by decide)
    rcases List.mem_append.1 hr with hr | hr
    · exact hR r hr
    · obtain rfl : r = 41 := by simpa using hr
      exact sc_low (by decide))] at h2
  split at h2
  · cases h2; right; left; rfl
  unfold parse at h2
  rw [alt_one ha] at h2
  simp only at h2
  split at h2
  · cases h2; right; right; rfl
  rw [if_neg (by omega)] at h2
  cases h2
  left
  exact ⟨rfl, rfl⟩
/-- Two in parentheses. -/
theorem text_two {s t : List UInt8} {l m : List Nd} (h : parseT s = (0, l)) (h' : parseT t = (0, m)) {y : Nat} {n : List Nd} (h2 : parseT (40 :: (s ++ 41 :: (40 :: (t ++ [41])))) = (y, n)) :
    (y = 0 ∧ n = l ++ m.map (mvNd l.length) ++ [⟨3, [l.length - 1, l.length + m.length - 1], 0, 0, []⟩]) ∨ y = 4 ∨ y = 9 ∨ y = 3 := by
  obtain ⟨R, p, k, hR, rfl, _, ha, hk, hz, rfl⟩ := text_ok h
  obtain ⟨R2, q, k2, hR2, rfl, _, ha2, hk2, hz2, rfl⟩ := text_ok h'
  have e : (40 :: (UtSpec.encs R ++ 41 :: (40 :: (UtSpec.encs R2 ++ [41]))) : List UInt8) = UtSpec.encs (40 :: (R ++ 41 :: (40 :: (R2 ++ [41])))) := by
    simp only [UtSpec.encs_cons, UtSpec.encs_append, enc40, enc41, encs_nil]; simp
  rw [e, text_encs (by
    intro r hr
    simp only [List.mem_cons, List.mem_append, List.not_mem_nil, or_false] at hr
    rcases hr with rfl | hr | rfl | rfl | hr | rfl
    · exact sc_low (by decide)
    · exact hR r hr
    · exact sc_low (by decide)
    · exact sc_low (by decide)
    · exact hR2 r hr
    · exact sc_low (by decide))] at h2
  split at h2
  · cases h2; right; left; rfl
  unfold parse at h2
  rw [alt_two ha ha2] at h2
  simp only at h2
  split at h2
  · cases h2; right; right; left; rfl
  split at h2
  · cases h2; right; right; right; rfl
  cases h2
  left
  refine ⟨rfl, ?_⟩
  have h1 := emit_pos p 0
  have h3 := emit_pos q (emit p 0).length
  have h4 : (emit q (emit p 0).length).length = (emit q 0).length := by rw [emit_at q (emit p 0).length, List.length_map]
  rw [emit, emits, emits, emits, roots, roots, roots]
  simp only [Nat.zero_add, List.append_nil]
  rw [h4, ← emit_at]
/-- Two with | between them. -/
theorem text_bar {s t : List UInt8} {l m : List Nd} (h : parseT s = (0, l)) (h' : parseT t = (0, m)) (hp : ∀ hx : l.length - 1 < l.length, (l[l.length - 1]).kind ≠ 4) (hq : ∀ hx : m.length - 1 < m.length, (m[m.length - 1]).kind ≠ 4)
    {y : Nat} {n : List Nd} (h2 : parseT (s ++ 124 :: t) = (y, n)) :
    (y = 0 ∧ n = l ++ m.map (mvNd l.length) ++ [⟨4, [l.length - 1, l.length + m.length - 1], 0, 0, []⟩]) ∨ y = 4 ∨ y = 3 := by
  obtain ⟨R, p, k, hR, rfl, _, ha, hk, hz, e1⟩ := text_ok h
  obtain ⟨R2, q, k2, hR2, rfl, _, ha2, hk2, hz2, e2⟩ := text_ok h'
  obtain ⟨x1, x2⟩ := kind_root e1
  obtain ⟨x3, x4⟩ := kind_root e2
  have hp' := hp x1
  have hq' := hq x3
  rw [x2] at hp'
  rw [x4] at hq'
  clear x1 x2 x3 x4 hp hq
  subst e1 e2
  have e : (UtSpec.encs R ++ 124 :: UtSpec.encs R2 : List UInt8) = UtSpec.encs (R ++ 124 :: R2) := by
    simp only [UtSpec.encs_cons, UtSpec.encs_append, enc124]; simp
  rw [e, text_encs (by
    intro r hr
    simp only [List.mem_cons, List.mem_append] at hr
    rcases hr with hr | rfl | hr
    · exact hR r hr
    · exact sc_low (by decide)
    · exact hR2 r hr)] at h2
  split at h2
  · cases h2; right; left; rfl
  unfold parse at h2
  rw [alt_bar ha ha2 hp' hq'] at h2
  simp only at h2
  rw [if_neg (by omega)] at h2
  split at h2
  · cases h2; right; right; rfl
  cases h2
  left
  refine ⟨rfl, ?_⟩
  have h1 := emit_pos p 0
  have h3 := emit_pos q (emit p 0).length
  have h4 : (emit q (emit p 0).length).length = (emit q 0).length := by rw [emit_at q (emit p 0).length, List.length_map]
  rw [emit, emits, emits, emits, roots, roots, roots]
  simp only [Nat.zero_add, List.append_nil]
  rw [h4, ← emit_at]
end Go.Proofs.Ytdmbgjpidlllcaa.RxJoinP

namespace Go.Proofs.Ytdmbgjpidlllcaa.RxSetP
open RxSpec RxEq RxTree RxSuf RxText RxJoinP RxCln

/-! ### Pairs -/
/-- Pairs that rise, with gaps between them. -/
def Ris : List Nat → Prop
  | [] => True
  | [_] => False
  | a :: b :: m => a ≤ b ∧ b ≤ 1114111 ∧ (∀ c d m', m = c :: d :: m' → b + 1 < c) ∧ Ris m
theorem pairs_all : ∀ l : List Nat, l.Pairwise (· < ·) → (∀ x ∈ l, x ≤ 1114111) → (∀ x, has (pairs l) x = true ↔ x ∈ l) ∧ Ris (pairs l) ∧ (∀ a b m, pairs l = a :: b :: m → l.head? = some a) ∧ (pairs l).length ≤ 2 * l.length
  | [], _, _ => by
    refine ⟨fun x => ?_, trivial, fun a b m h => (by cases h), Nat.le_refl _⟩
    simp [pairs, has]
  | r :: l, hp, hl => by
    obtain ⟨h1, h2, h3, h4⟩ := pairs_all l (List.pairwise_cons.1 hp).2 (fun x hx => hl x (by simp [hx]))
    have hr := hl r (by simp)
    rw [pairs_cons]
    rcases pairs_shape l with ⟨e1, e2⟩ | ⟨a, b, m, e⟩
    · subst e2
      rw [e1, con_nil]
      refine ⟨fun x => ?_, ⟨Nat.le_refl _, hr, (fun c d m' h => by cases h), trivial⟩, fun a b m h => ?_, by simp⟩
      · rw [has_cons]
        simp [has]
        omega
      · injection h with h _
        subst h
        rfl
    · have hh := h3 a b m e
      have ha : r < a := (List.pairwise_cons.1 hp).1 a (List.mem_of_mem_head? (by rw [hh]; rfl))
      rw [e] at h1 h2 h4
      obtain ⟨q1, q2, q3, q4⟩ := h2
      rw [e, con_cons]
      by_cases hra : a = r + 1
      · rw [if_pos hra]
        refine ⟨fun x => ?_, ⟨by omega, q2, q3, q4⟩, fun a' b' m' h => ?_, by simp at h4 ⊢; omega⟩
        · rw [List.mem_cons, ← h1 x, has_cons, has_cons]
          simp only [Bool.or_eq_true, Bool.and_eq_true, decide_eq_true_eq]
          constructor
          · rintro (h | h)
            · by_cases hx : x = r
              · exact .inl hx
              · exact .inr (.inl ⟨by omega, h.2⟩)
            · exact .inr (.inr h)
          · rintro (h | h | h)
            · exact .inl ⟨by omega, by omega⟩
            · exact .inl ⟨by omega, h.2⟩
            · exact .inr h
        · injection h with h _
          subst h
          rfl
      · rw [if_neg hra]
        refine ⟨fun x => ?_, ⟨Nat.le_refl _, hr, fun c d m' h => ?_, q1, q2, q3, q4⟩, fun a' b' m' h => ?_, by simp at h4 ⊢; omega⟩
        · rw [List.mem_cons, ← h1 x, has_cons]
          simp only [Bool.or_eq_true, Bool.and_eq_true, decide_eq_true_eq]
          constructor
          · rintro (h | h)
            · exact .inl (by omega)
            · exact .inr h
          · rintro (h | h)
            · exact .inl ⟨by omega, by omega⟩
            · exact .inr h
        · injection h with h _
          omega
        · injection h with h _
          subst h
          rfl
/-- What Go looks at, place by place. -/
theorem ris_at : ∀ (l : List Nat), Ris l → l.length % 2 = 0 ∧ ∀ i (h : i < l.length), l[i] ≤ 1114111 ∧ (i % 2 = 1 → l[i - 1]'(by omega) ≤ l[i]) ∧ (i % 2 = 0 → 0 < i → l[i - 1]'(by omega) + 1 < l[i])
  | [], _ => ⟨rfl, fun i h => absurd h (Nat.not_lt_zero _)⟩
  | [_], h => h.elim
  | a :: b :: m, h => by
    obtain ⟨h1, h2, h3, h4⟩ := h
    obtain ⟨i1, i2⟩ := ris_at m h4
    refine ⟨by simp; omega, fun i hi => ?_⟩
    match i, hi with
    | 0, _ => exact ⟨by simp; omega, (fun h => by simp at h), fun _ h => absurd h (Nat.lt_irrefl _)⟩
    | 1, _ => exact ⟨h2, (fun _ => h1), fun h => by simp at h⟩
    | 2, hi =>
      have hm : 0 < m.length := by simp at hi; omega
      obtain ⟨q1, q2, q3⟩ := i2 0 hm
      refine ⟨q1, (fun h => by simp at h), fun _ _ => ?_⟩
      match m, hm with
      | [c], _ => exact h4.elim
      | c :: d :: m', _ => exact h3 c d m' rfl
    | i + 3, hi =>
      have hm : i + 1 < m.length := by simp at hi; omega
      obtain ⟨q1, q2, q3⟩ := i2 (i + 1) hm
      refine ⟨q1, fun h => ?_, fun h _ => ?_⟩
      · exact q2 (by omega)
      · exact q3 (by omega) (by omega)
theorem filter_all (set : List Nat) (not : Bool) (n : Nat) (hn : n ≤ 1114112) : (∀ r, has (pairs ((List.range n).filter fun r => has set r != not)) r = true ↔ r < n ∧ has set r ≠ not) ∧ Ris (pairs ((List.range n).filter fun r => has set r != not)) ∧
    (pairs ((List.range n).filter fun r => has set r != not)).length ≤ 2 * n := by
  have hpw : ((List.range n).filter fun r => has set r != not).Pairwise (· < ·) := List.Pairwise.filter _ List.pairwise_lt_range
  obtain ⟨h1, h2, _, h4⟩ := pairs_all _ hpw (fun x hx => by have := (List.mem_filter.1 hx).1; rw [List.mem_range] at this; omega)
  refine ⟨fun r => ?_, h2, ?_⟩
  · rw [h1 r, List.mem_filter, List.mem_range]
    simp
  · have := List.length_filter_le (fun r => has set r != not) (List.range n)
    rw [List.length_range] at this
    omega
theorem clean_all (set : List Nat) (not : Bool) : (∀ r, has (clean set not) r = true ↔ r < 1114112 ∧ has set r ≠ not) ∧ Ris (clean set not) ∧ (clean set not).length ≤ 2 * 1114112 := by
  unfold clean
  exact filter_all set not _ (Nat.le_refl _)
theorem hasZ_iff : ∀ (l : List Nat) (z : Int), hasZ l z = true ↔ 0 ≤ z ∧ has l z.toNat = true := by
  intro l z
  by_cases hz : 0 ≤ z
  · have := has_hasZ l z.toNat
    rw [show ((z.toNat : Nat) : Int) = z by omega] at this
    rw [this]
    exact ⟨fun h => ⟨hz, h⟩, fun h => h.2⟩
  · refine ⟨fun h => ?_, fun h => absurd h.1 hz⟩
    exfalso
    revert h
    have key : ∀ (n : Nat) (l : List Nat), l.length ≤ n → hasZ l z = false := by
      intro n
      induction n with
      | zero => intro l hl; obtain rfl : l = [] := List.eq_nil_of_length_eq_zero (by omega); rfl
      | succ n ih =>
        intro l hl
        match l, hl with
        | [], _ => rfl
        | [_], _ => rfl
        | a :: b :: m, hl =>
          rw [hasZ, ih m (by simp at hl; omega)]
          simp
          omega
    rw [key l.length l (Nat.le_refl _)]
    decide

/-! ### The class -/
def mem1 (x : Nat) : List Nat := if x = 123 ∨ x = 124 ∨ x = 125 then [92, x] else [x]
def memT (xs : List Nat) : List Nat := xs.flatMap mem1
def dbl (xs : List Nat) : List Nat := xs.flatMap fun x => [x, x]
theorem memT_cons (x : Nat) (xs : List Nat) : memT (x :: xs) = mem1 x ++ memT xs := by simp [memT]
theorem dbl_cons (x : Nat) (xs : List Nat) : dbl (x :: xs) = x :: x :: dbl xs := by simp [dbl]
theorem has_dbl : ∀ (xs : List Nat) (r : Nat), has (dbl xs) r = true ↔ r ∈ xs
  | [], r => by simp [dbl, has]
  | x :: xs, r => by
    rw [dbl_cons, has_cons]
    simp only [Bool.or_eq_true, Bool.and_eq_true, decide_eq_true_eq, List.mem_cons]
    rw [has_dbl xs r]
    constructor
    · rintro (h | h)
      · exact .inl (by omega)
      · exact .inr h
    · rintro (h | h)
      · exact .inl ⟨by omega, by omega⟩
      · exact .inr h
theorem inn_no {x : Nat} (h : 97 ≤ x) : inn x [91, 93, 94, 45] = false := by
  unfold inn
  simp
  omega
theorem member_mem {x : Nat} (h : 97 ≤ x) (t : List Nat) : member (mem1 x ++ t) = some ([x, x], t) := by
  unfold mem1
  split
  · rename_i hx
    rcases hx with rfl | rfl | rfl <;> rfl
  · rw [List.cons_append, List.nil_append, member_cons, if_neg (by omega), inn_no h]
    rfl
theorem head_mem {x : Nat} (h : 97 ≤ x) {c : Nat} (hc : c < 92 ∨ c = 93 ∨ c = 94) (t : List Nat) : hd (mem1 x ++ t) c = false := by
  unfold mem1
  split
  · rw [List.cons_append, hd_cons]; simp; omega
  · rw [List.cons_append, hd_cons]; simp; omega
theorem head_memT {xs : List Nat} (h : ∀ x ∈ xs, 97 ≤ x) {c : Nat} (hc : c < 92 ∨ c = 94) (t : List Nat) : hd (memT xs ++ 93 :: t) c = false := by
  cases xs with
  | nil => show hd (93 :: t) c = false; rw [hd_cons]; simp; omega
  | cons x xs => rw [memT_cons, List.append_assoc]; exact head_mem (h x (by simp)) (by omega) _
theorem piece_mem {x : Nat} (h : 97 ≤ x) {t : List Nat} (ht : hd t 45 = false) : piece (mem1 x ++ t) = some ([x, x], t) := by
  unfold piece
  rw [member_mem h]
  simp only
  rw [ht]
  rfl
theorem class_mem : ∀ (xs : List Nat) (set : List Nat) (first : Bool) (t : List Nat), (∀ x ∈ xs, 97 ≤ x) → (first = true → xs ≠ []) → classL set first (memT xs ++ 93 :: t) = some (set ++ dbl xs, t)
  | [], set, first, t, _, hf => by
    cases first with
    | true => exact absurd rfl (hf rfl)
    | false =>
      rw [classL_eq, if_pos (by rfl)]
      simp [memT, dbl]
  | x :: xs, set, first, t, h, _ => by
    have hx := h x (by simp)
    rw [classL_eq, memT_cons, List.append_assoc, head_mem hx (by omega), if_neg (by simp), piece_mem hx (head_memT (fun y hy => h y (by simp [hy])) (by omega) t)]
    simp only
    rw [class_mem xs _ _ _ (fun y hy => h y (by simp [hy])) (by simp), dbl_cons, List.append_assoc]
    rfl
theorem alt_class {rs : List Nat} {p : Pat} (h : cls rs = some (p, [])) : altS (91 :: rs) = some (p, 0, []) := by
  refine alt_of_row ?_
  rw [rowL_eq, if_neg (by simp [hd_cons]), itemS, atomS, if_neg (by decide), if_pos rfl, h]
  simp only [Option.map_some]
  rw [rep_nil]
  simp only [Option.map_some]
  rw [row_nil]
  rfl
theorem alt_class_none {rs : List Nat} (h : cls rs = none) : altS (91 :: rs) = none := by
  rw [altS_eq, rowL_eq, if_neg (by simp [hd_cons]), itemS, atomS, if_neg (by decide), if_pos rfl, h]
  rfl
theorem cls_mem {xs : List Nat} (h : ∀ x ∈ xs, 97 ≤ x) (h0 : xs ≠ []) : cls (memT xs ++ [93]) = some (.set (clean (dbl xs) false), []) ∧ cls (94 :: (memT xs ++ [93])) = some (.set (clean (dbl xs) true), []) := by
  constructor
  · unfold cls
    rw [head_memT h (by omega), if_neg (by decide), class_mem xs [] true [] h (fun _ => h0)]
    rfl
  · unfold cls
    rw [hd_cons, if_pos (by decide), List.tail_cons, class_mem xs [] true [] h (fun _ => h0)]
    rfl
theorem parse_class {rs : List Nat} {l : List Nat} (h : cls rs = some (.set l, [])) : parse (91 :: rs) = (0, [⟨2, [], 0, 0, l.map fun (n : Nat) => (n : Int)⟩]) := by
  unfold parse
  rw [alt_class h]
  rfl
theorem parse_class_none {rs : List Nat} (h : cls rs = none) : parse (91 :: rs) = (40, []) := by
  unfold parse
  rw [alt_class_none h]
theorem mem_len {x : Nat} (h : x ≤ 608) : (UtSpec.encs (mem1 x)).length ≤ 2 := by
  unfold mem1
  split
  · rw [UtSpec.encs_cons, UtSpec.encs_cons, enc_low (by omega), enc_low (by omega)]; simp [UtSpec.encs]
  · rw [UtSpec.encs_cons]
    rcases UtSpec.enc_cases (r := x) (.inl (by omega)) with ⟨b0, e, _⟩ | ⟨b0, b1, e, _⟩ | ⟨b0, b1, b2, e, _⟩ | ⟨b0, b1, b2, b3, e, _⟩ <;> rw [e] <;> simp [UtSpec.encs] <;> omega
theorem memT_len : ∀ {xs : List Nat}, (∀ x ∈ xs, x ≤ 608) → (UtSpec.encs (memT xs)).length ≤ 2 * xs.length
  | [], _ => by simp [memT, UtSpec.encs]
  | x :: xs, h => by
    have h1 := mem_len (h x (by simp))
    have h2 := memT_len (xs := xs) (fun y hy => h y (by simp [hy]))
    rw [memT_cons, UtSpec.encs_append, List.length_append, List.length_cons]
    omega
theorem memT_sc {xs : List Nat} (h : ∀ x ∈ xs, x ≤ 608) : ∀ r ∈ memT xs, UtSpec.sc r := by
  intro r hr
  unfold memT at hr
  obtain ⟨x, hx, hr⟩ := List.mem_flatMap.1 hr
  have h1 := h x hx
  unfold mem1 at hr
  split at hr
  · simp at hr
    exact .inl (by omega)
  · simp at hr
    exact .inl (by omega)
/-- A class of single runes, and with ^. -/
theorem text_class {xs : List Nat} (h1 : ∀ x ∈ xs, 97 ≤ x) (h2 : ∀ x ∈ xs, x ≤ 608) (hl : xs.length ≤ 20) (h0 : xs ≠ []) :
    parseT (91 :: (UtSpec.encs (memT xs) ++ [93])) = (0, [⟨2, [], 0, 0, (clean (dbl xs) false).map fun (n : Nat) => (n : Int)⟩]) ∧
    parseT (91 :: 94 :: (UtSpec.encs (memT xs) ++ [93])) = (0, [⟨2, [], 0, 0, (clean (dbl xs) true).map fun (n : Nat) => (n : Int)⟩]) := by
  have hlen := memT_len h2
  obtain ⟨c1, c2⟩ := cls_mem h1 h0
  have e1 : (91 :: (UtSpec.encs (memT xs) ++ [93]) : List UInt8) = UtSpec.encs (91 :: (memT xs ++ [93])) := by
    rw [UtSpec.encs_cons, UtSpec.encs_append, UtSpec.encs_cons, enc_low (r := 91) (by decide), enc_low (r := 93) (by decide)]; rfl
  have e2 : (91 :: 94 :: (UtSpec.encs (memT xs) ++ [93]) : List UInt8) = UtSpec.encs (91 :: 94 :: (memT xs ++ [93])) := by
    rw [UtSpec.encs_cons, UtSpec.encs_cons, UtSpec.encs_append, UtSpec.encs_cons, enc_low (r := 91) (by decide), enc_low (r := 94) (by decide), enc_low (r := 93) (by decide)]; rfl
  constructor
  · rw [e1, text_encs, ← e1, if_neg (by simp; omega), parse_class c1]
    intro r hr
    simp only [List.mem_cons, List.mem_append, List.not_mem_nil, or_false] at hr
    rcases hr with rfl | hr | rfl
    · exact sc_low (by decide)
    · exact memT_sc h2 r hr
    · exact sc_low (by decide)
  · rw [e2, text_encs, ← e2, if_neg (by simp; omega), parse_class c2]
    intro r hr
    simp only [List.mem_cons, List.mem_append, List.not_mem_nil, or_false] at hr
    rcases hr with rfl | rfl | hr | rfl
    · exact sc_low (by decide)
    · exact sc_low (by decide)
    · exact memT_sc h2 r hr
    · exact sc_low (by decide)
theorem text_class_none : parseT [91, 93] = (40, []) ∧ parseT [91, 94, 93] = (40, []) := by
  have e1 : ([91, 93] : List UInt8) = UtSpec.encs [91, 93] := by
    rw [encs_low (by decide)]; rfl
  have e2 : ([91, 94, 93] : List UInt8) = UtSpec.encs [91, 94, 93] := by
    rw [encs_low (by decide)]; rfl
  have n1 : cls [93] = none := by
    unfold cls
    rw [classL_eq]
    rfl
  have n2 : cls [94, 93] = none := by
    unfold cls
    rw [classL_eq]
    rfl
  constructor
  · rw [e1, text_encs (fun r hr => sc_low ((by decide : ∀ r ∈ [91, 93], r < 128) r hr)), ← e1, if_neg (by decide), parse_class_none n1]
  · rw [e2, text_encs (fun r hr => sc_low ((by decide : ∀ r ∈ [91, 94, 93], r < 128) r hr)), ← e2, if_neg (by decide), parse_class_none n2]
end Go.Proofs.Ytdmbgjpidlllcaa.RxSetP

namespace Go.Proofs.Ytdmbgjpidlllcaa.RqPlain
open RxSpec RxEq RxTree RxCln RxSetP

/-! ### Pairs that rise are told by what they have -/
theorem ris_lo : ∀ (m : List Nat) (a b r : Nat), Ris (a :: b :: m) → has m r = true → b + 1 < r
  | [], _, _, _, _, h => by simp [has] at h
  | [_], _, _, _, _, h => by simp [has] at h
  | c :: d :: m, a, b, r, hR, h => by
    obtain ⟨h1, h2, h3, h4⟩ := hR
    have hc := h3 c d m rfl
    rw [has_cons, Bool.or_eq_true] at h
    rcases h with h | h
    · simp at h; omega
    · have := ris_lo m c d r h4 h
      have := h4.1
      omega
theorem has_first {a b : Nat} (m : List Nat) (h : a ≤ b) : has (a :: b :: m) a = true := by
  rw [has_cons]; simp [h]
theorem has_in {a b r : Nat} (m : List Nat) (h1 : a ≤ r) (h2 : r ≤ b) : has (a :: b :: m) r = true := by
  rw [has_cons]; simp [h1, h2]
theorem ris_ge {a b r : Nat} {m : List Nat} (hR : Ris (a :: b :: m)) (h : has (a :: b :: m) r = true) : a ≤ r := by
  rw [has_cons, Bool.or_eq_true] at h
  rcases h with h | h
  · simp at h; omega
  · have := ris_lo m a b r hR h
    have := hR.1
    omega
theorem ris_behind {a b r : Nat} {m : List Nat} (hR : Ris (a :: b :: m)) : has m r = true ↔ has (a :: b :: m) r = true ∧ b < r := by
  constructor
  · intro h
    have := ris_lo m a b r hR h
    exact ⟨by rw [has_cons, h, Bool.or_true], by omega⟩
  · rintro ⟨h, h2⟩
    rw [has_cons, Bool.or_eq_true] at h
    rcases h with h | h
    · simp at h; omega
    · exact h
theorem ris_ext : ∀ (l m : List Nat), Ris l → Ris m → (∀ r, has l r = true ↔ has m r = true) → l = m
  | [], [], _, _, _ => rfl
  | [], a :: b :: m, _, hm, h => by
    have := (h a).2 (has_first m hm.1)
    simp [has] at this
  | a :: b :: l, [], hl, _, h => by
    have := (h a).1 (has_first l hl.1)
    simp [has] at this
  | [_], _, hl, _, _ => hl.elim
  | _, [_], _, hm, _ => hm.elim
  | a :: b :: l, c :: d :: m, hl, hm, h => by
    have h1 := ris_ge hm ((h a).1 (has_first l hl.1))
    have h2 := ris_ge hl ((h c).2 (has_first m hm.1))
    obtain rfl : a = c := by omega
    have hbd : b = d := by
      rcases Nat.lt_trichotomy b d with hb | hb | hb
      · have h3 := (h (b + 1)).2 (has_in m (by have := hl.1; omega) (by omega))
        have h4 := (ris_behind hl).2 ⟨h3, by omega⟩
        have := ris_lo l a b _ hl h4
        omega
      · exact hb
      · have h3 := (h (d + 1)).1 (has_in l (by have := hm.1; omega) (by omega))
        have h4 := (ris_behind hm).2 ⟨h3, by omega⟩
        have := ris_lo m a d _ hm h4
        omega
    subst hbd
    have := ris_ext l m hl.2.2.2 hm.2.2.2 (fun r => by rw [ris_behind hl, ris_behind hm, h r])
    rw [this]

/-! ### Pairs put in order, joined -/
def flatP (ps : List (Nat × Nat)) : List Nat := ps.flatMap fun p => [p.1, p.2]
theorem flatP_cons (p : Nat × Nat) (ps : List (Nat × Nat)) : flatP (p :: ps) = p.1 :: p.2 :: flatP ps := by simp [flatP]
theorem flatP_app (ps qs : List (Nat × Nat)) : flatP (ps ++ qs) = flatP ps ++ flatP qs := by simp [flatP]
theorem flatP_len : ∀ ps : List (Nat × Nat), (flatP ps).length = 2 * ps.length
  | [] => rfl
  | p :: ps => by rw [flatP_cons, List.length_cons, List.length_cons, flatP_len ps, List.length_cons]; omega
theorem flatP_at : ∀ (ps : List (Nat × Nat)) (j : Nat) (h : j < ps.length), (flatP ps)[2 * j]? = some (ps[j]).1 ∧ (flatP ps)[2 * j + 1]? = some (ps[j]).2
  | p :: ps, 0, _ => by rw [flatP_cons]; exact ⟨rfl, rfl⟩
  | p :: ps, j + 1, h => by
    have := flatP_at ps j (by simpa using h)
    rw [flatP_cons, show 2 * (j + 1) = 2 * j + 1 + 1 by omega, show 2 * j + 1 + 1 + 1 = (2 * j + 1) + 1 + 1 by omega]
    simpa using this
/-- Pairs of runes. -/
def Vp (ps : List (Nat × Nat)) : Prop := ∀ p ∈ ps, p.1 ≤ p.2 ∧ p.2 ≤ 1114111
theorem has_flatP : ∀ (ps : List (Nat × Nat)) (r : Nat), has (flatP ps) r = true ↔ ∃ p ∈ ps, p.1 ≤ r ∧ r ≤ p.2
  | [], r => by simp [flatP, has]
  | p :: ps, r => by
    rw [flatP_cons, has_cons, Bool.or_eq_true, has_flatP ps r]
    simp
/-- The pair a, b and those behind it, joined where they touch. -/
def merge : Nat → Nat → List (Nat × Nat) → List Nat
  | a, b, [] => [a, b]
  | a, b, p :: t => if p.1 ≤ b + 1 then merge a (max b p.2) t else a :: b :: merge p.1 p.2 t
theorem merge_all : ∀ (t : List (Nat × Nat)) (a b : Nat), a ≤ b → b ≤ 1114111 → Vp t → (∀ p ∈ t, a ≤ p.1) → t.Pairwise (fun p q => p.1 ≤ q.1) →
    Ris (merge a b t) ∧ (∃ b' m, merge a b t = a :: b' :: m) ∧ ∀ r, has (merge a b t) r = true ↔ (a ≤ r ∧ r ≤ b) ∨ ∃ p ∈ t, p.1 ≤ r ∧ r ≤ p.2
  | [], a, b, h1, h2, _, _, _ => by
    rw [merge]
    refine ⟨⟨h1, h2, (fun _ _ _ h => by cases h), trivial⟩, ⟨b, [], rfl⟩, fun r => ?_⟩
    rw [has_cons]
    simp [has]
  | p :: t, a, b, h1, h2, hV, hA, hS => by
    have hp := hV p (by simp)
    have hpa := hA p (by simp)
    have hV' : Vp t := fun q hq => hV q (by simp [hq])
    rw [List.pairwise_cons] at hS
    rw [merge]
    split
    · rename_i hle
      obtain ⟨i1, i2, i3⟩ := merge_all t a (max b p.2) (by omega) (by omega) hV' (fun q hq => hA q (by simp [hq])) hS.2
      refine ⟨i1, i2, fun r => ?_⟩
      rw [i3 r]
      simp only [List.mem_cons, exists_eq_or_imp]
      constructor
      · rintro (h | h)
        · by_cases hb : r ≤ b
          · exact .inl ⟨h.1, hb⟩
          · exact .inr (.inl (by omega))
        · exact .inr (.inr h)
      · rintro (h | h | h)
        · exact .inl (by omega)
        · exact .inl (by omega)
        · exact .inr h
    · rename_i hgt
      obtain ⟨i1, ⟨b', m, i2⟩, i3⟩ := merge_all t p.1 p.2 hp.1 hp.2 hV' (fun q hq => hS.1 q hq) hS.2
      refine ⟨?_, ⟨b, _, rfl⟩, fun r => ?_⟩
      · refine ⟨h1, h2, fun c d m' e => ?_, i1⟩
        rw [i2] at e
        injection e with e _
        omega
      · rw [has_cons, Bool.or_eq_true, i3 r]
        simp
/-- Whatever order the pairs are put in, they are the set's own. -/
theorem merge_cl {ps t : List (Nat × Nat)} {a b : Nat} (hV : Vp ps) (hp : ((a, b) :: t).Perm ps) (hS : ((a, b) :: t).Pairwise (fun p q => p.1 ≤ q.1)) {cl : List Nat} (hc : (∀ r, has cl r = true ↔ r < 1114112 ∧ has (flatP ps) r ≠ false) ∧ Ris cl ∧ cl.length ≤ 2 * 1114112) : merge a b t = cl := by
  obtain ⟨c1, c2, _⟩ := hc
  have hV' : Vp ((a, b) :: t) := fun q hq => hV q (hp.mem_iff.1 hq)
  obtain ⟨h1, h2⟩ := hV' (a, b) (by simp)
  rw [List.pairwise_cons] at hS
  obtain ⟨i1, _, i3⟩ := merge_all t a b h1 h2 (fun q hq => hV' q (by simp [hq])) (fun q hq => hS.1 q hq) hS.2
  refine ris_ext _ _ i1 c2 fun r => ?_
  rw [i3 r, c1 r]
  have h3 : (has (flatP ps) r ≠ false) ↔ ∃ p ∈ ps, p.1 ≤ r ∧ r ≤ p.2 := by rw [← has_flatP, Bool.ne_false_iff]
  rw [h3]
  have h4 : (∃ p ∈ ps, p.1 ≤ r ∧ r ≤ p.2) ↔ ∃ p ∈ (a, b) :: t, p.1 ≤ r ∧ r ≤ p.2 := ⟨fun ⟨p, h, h'⟩ => ⟨p, hp.mem_iff.2 h, h'⟩, fun ⟨p, h, h'⟩ => ⟨p, hp.mem_iff.1 h, h'⟩⟩
  constructor
  · intro h
    have h5 : ∃ p ∈ (a, b) :: t, p.1 ≤ r ∧ r ≤ p.2 := by simpa using h
    obtain ⟨p, hp1, hp2⟩ := h4.2 h5
    have := hV p hp1
    exact ⟨by omega, p, hp1, hp2⟩
  · rintro ⟨_, h⟩
    simpa using h4.1 h
theorem merge_clean {ps t : List (Nat × Nat)} {a b : Nat} (hV : Vp ps) (hp : ((a, b) :: t).Perm ps) (hS : ((a, b) :: t).Pairwise (fun p q => p.1 ≤ q.1)) : merge a b t = clean (flatP ps) false := merge_cl hV hp hS (clean_all (flatP ps) false)

/-! ### Gaps -/
/-- The gaps between the pairs, from f on. -/
def oth : Nat → List Nat → List Nat
  | f, a :: b :: m => (if f < a then [f, a - 1] else []) ++ oth (b + 1) m
  | f, _ => if f ≤ 1114111 then [f, 1114111] else []
theorem ris_hd {a b : Nat} {m : List Nat} (h1 : a ≤ b) (h2 : b ≤ 1114111) (hR : Ris m) (h3 : ∀ r, has m r = true → b + 1 < r) : Ris (a :: b :: m) := by
  refine ⟨h1, h2, fun c d m' e => ?_, hR⟩
  subst e
  exact h3 c (has_first m' hR.1)
theorem oth_all : ∀ (n : Nat) (l : List Nat) (f : Nat), l.length ≤ n → Ris l → (∀ r, has l r = true → f ≤ r) → Ris (oth f l) ∧ ∀ r, has (oth f l) r = true ↔ f ≤ r ∧ r ≤ 1114111 ∧ has l r = false
  | n, [], f, _, _, _ => by
    rw [oth]
    · split
      · rename_i h
        refine ⟨⟨h, Nat.le_refl _, (fun _ _ _ h => by cases h), trivial⟩, fun r => ?_⟩
        rw [has_cons]; simp [has]
      · refine ⟨trivial, fun r => ?_⟩
        simp [has]; omega
    · intro a b m h; cases h
  | n, [_], f, _, h, _ => h.elim
  | n + 1, a :: b :: m, f, hn, hR, hf => by
    obtain ⟨i1, i2⟩ := oth_all n m (b + 1) (by simp at hn; omega) hR.2.2.2 (fun r h => by have := ris_lo m a b r hR h; omega)
    have hfa := hf a (has_first m hR.1)
    have hab := hR.1
    have hb := hR.2.1
    rw [oth]
    split
    · rename_i h
      refine ⟨ris_hd (by omega) (by omega) i1 (fun r h => by have := ((i2 r).1 h).1; omega), fun r => ?_⟩
      rw [List.cons_append, List.cons_append, List.nil_append, has_cons, Bool.or_eq_true, i2 r]
      rw [has_cons, Bool.or_eq_false_iff]
      have h3 : has m r = true → b + 1 < r := fun h => ris_lo m a b r hR h
      simp only [Bool.and_eq_true, decide_eq_true_eq, Bool.and_eq_false_iff, decide_eq_false_iff_not]
      constructor
      · rintro (⟨q1, q2⟩ | ⟨q1, q2, q3⟩)
        · refine ⟨q1, by omega, .inl (by omega), ?_⟩
          cases hm : has m r with
          | false => rfl
          | true => have := h3 hm; omega
        · exact ⟨by omega, q2, .inr (by omega), q3⟩
      · rintro ⟨q1, q2, q3, q4⟩
        rcases q3 with q3 | q3
        · exact .inl ⟨q1, by omega⟩
        · exact .inr ⟨by omega, q2, q4⟩
    · rename_i h
      refine ⟨by rw [List.nil_append]; exact i1, fun r => ?_⟩
      rw [List.nil_append, i2 r, has_cons, Bool.or_eq_false_iff]
      simp only [Bool.and_eq_false_iff, decide_eq_false_iff_not]
      constructor
      · rintro ⟨q1, q2, q3⟩
        exact ⟨by omega, q2, .inr (by omega), q3⟩
      · rintro ⟨q1, q2, q3, q4⟩
        rcases q3 with q3 | q3
        · omega
        · exact ⟨by omega, q2, q4⟩
theorem oth_cl {set cl dl : List Nat} (hc : (∀ r, has cl r = true ↔ r < 1114112 ∧ has set r ≠ false) ∧ Ris cl ∧ cl.length ≤ 2 * 1114112) (hd : (∀ r, has dl r = true ↔ r < 1114112 ∧ has set r ≠ true) ∧ Ris dl ∧ dl.length ≤ 2 * 1114112) : oth 0 cl = dl := by
  obtain ⟨c1, c2, _⟩ := hc
  obtain ⟨d1, d2, _⟩ := hd
  obtain ⟨i1, i2⟩ := oth_all _ cl 0 (Nat.le_refl _) c2 (fun _ _ => Nat.zero_le _)
  refine ris_ext _ _ i1 d2 fun r => ?_
  rw [i2 r, d1 r]
  have h1 := c1 r
  cases hs : has set r <;> cases hc : has cl r <;> rw [hs, hc] at h1 <;> simp at h1 ⊢ <;> omega
/-- The runes that aren't in a set. -/
theorem oth_clean (set : List Nat) : oth 0 (clean set false) = clean set true := oth_cl (clean_all set false) (clean_all set true)
theorem oth_dot : oth 0 [10, 10] = [0, 9, 11, 1114111] := rfl
theorem ris_pairs : ∀ (l : List Nat), Ris l → ∃ ps, l = flatP ps ∧ Vp ps
  | [], _ => ⟨[], rfl, fun _ h => by cases h⟩
  | [_], h => h.elim
  | a :: b :: m, h => by
    obtain ⟨ps, e, hv⟩ := ris_pairs m h.2.2.2
    refine ⟨(a, b) :: ps, by rw [flatP_cons, e], fun p hp => ?_⟩
    rcases List.mem_cons.1 hp with rfl | hp
    · exact ⟨h.1, h.2.1⟩
    · exact hv p hp

theorem pairs_of {cl : List Nat} {P : Prop} {N : Nat} (h : P ∧ Ris cl ∧ cl.length ≤ 2 * N) : ∃ cps, cl = flatP cps ∧ Vp cps ∧ cps.length ≤ N := by
  obtain ⟨_, h2, h3⟩ := h
  obtain ⟨cps, e, hv⟩ := ris_pairs cl h2
  refine ⟨cps, e, hv, ?_⟩
  rw [e, flatP_len] at h3
  omega
theorem clean_pairs (set : List Nat) : ∃ cps, clean set false = flatP cps ∧ Vp cps ∧ cps.length ≤ 1114112 := pairs_of (clean_all set false)

/-! ### Members -/
/-- The runes of a text. -/
def Rs (rs : List Nat) : Prop := ∀ r ∈ rs, r ≤ 1114111
theorem esc_vp {rs : List Nat} {m r1 : List Nat} (hR : Rs rs) (h : esc rs = some (m, r1)) : Rs r1 ∧ ∃ ps, m = flatP ps ∧ Vp ps ∧ ps ≠ [] ∧ ps.length ≤ 4 := by
  cases rs with
  | nil => cases h
  | cons r t =>
    have hr := hR r (by simp)
    rw [esc_cons] at h
    have key : r1 = t := by
      repeat' split at h
      all_goals first | (cases h; done) | (simp only [Option.some.injEq, Prod.mk.injEq] at h; exact h.2.symm)
    subst key
    refine ⟨fun x hx => hR x (by simp [hx]), ?_⟩
    split at h
    · cases h; exact ⟨[(10, 10)], rfl, by simp [Vp], by simp, by simp⟩
    split at h
    · cases h; exact ⟨[(9, 9)], rfl, by simp [Vp], by simp, by simp⟩
    split at h
    · cases h; exact ⟨[(48, 57)], rfl, by simp [Vp], by simp, by simp⟩
    split at h
    · cases h; exact ⟨[(48, 57), (65, 90), (95, 95), (97, 122)], rfl, by simp [Vp], by simp, by simp⟩
    split at h
    · cases h; exact ⟨[(9, 10), (13, 13), (32, 32)], rfl, by simp [Vp], by simp, by simp⟩
    split at h
    · cases h; exact ⟨[(r, r)], rfl, by simp [Vp]; omega, by simp, by simp⟩
    · cases h
theorem member_vp {rs : List Nat} {m r1 : List Nat} (hR : Rs rs) (h : member rs = some (m, r1)) : Rs r1 ∧ ∃ ps, m = flatP ps ∧ Vp ps ∧ ps ≠ [] ∧ ps.length ≤ 4 := by
  cases rs with
  | nil => cases h
  | cons r t =>
    have hr := hR r (by simp)
    have hT : Rs t := fun x hx => hR x (by simp [hx])
    rw [member_cons] at h
    split at h
    · exact esc_vp hT h
    split at h
    · cases h
    · cases h; exact ⟨hT, [(r, r)], rfl, by simp [Vp]; omega, by simp, by simp⟩
theorem tail_rs {rs : List Nat} (hR : Rs rs) : Rs rs.tail := fun x hx => hR x (List.mem_of_mem_tail hx)
theorem fromTo_vp {m k x : List Nat} (hk : ∀ r ∈ k, r ≤ 1114111) (h : fromTo m k = some x) : ∃ ps, x = flatP ps ∧ Vp ps ∧ ps ≠ [] ∧ ps.length ≤ 4 := by
  unfold fromTo at h
  split at h
  · rename_i hc
    cases h
    refine ⟨[(m.getD 0 0, k.getD 0 0)], rfl, ?_, by simp, by simp⟩
    have : k.getD 0 0 ≤ 1114111 := by
      cases k with
      | nil => simp
      | cons a t => exact hk a (by simp)
    simp [Vp]
    exact ⟨by simpa using hc.2.2.2.2, by simpa using this⟩
  · cases h
theorem vp_le {ps : List (Nat × Nat)} (h : Vp ps) : ∀ r ∈ flatP ps, r ≤ 1114111 := fun r hr => by
  unfold flatP at hr
  obtain ⟨p, hp, hr⟩ := List.mem_flatMap.1 hr
  have := h p hp
  simp at hr
  omega
theorem piece_vp {rs : List Nat} {m r1 : List Nat} (hR : Rs rs) (h : piece rs = some (m, r1)) : Rs r1 ∧ ∃ ps, m = flatP ps ∧ Vp ps ∧ ps ≠ [] ∧ ps.length ≤ 4 := by
  unfold piece at h
  cases hm : member rs with
  | none => rw [hm] at h; cases h
  | some x =>
    obtain ⟨m0, r0⟩ := x
    rw [hm] at h
    obtain ⟨hr0, hp0⟩ := member_vp hR hm
    simp only at h
    split at h
    · cases hk : member r0.tail with
      | none => rw [hk] at h; cases h
      | some y =>
        obtain ⟨k0, r2⟩ := y
        rw [hk] at h
        obtain ⟨hr2, ps, e, hv, _⟩ := member_vp (tail_rs hr0) hk
        simp only at h
        cases hf : fromTo m0 k0 with
        | none => rw [hf] at h; cases h
        | some z =>
          rw [hf] at h
          cases h
          exact ⟨hr2, fromTo_vp (by rw [e]; exact vp_le hv) hf⟩
    · cases h; exact ⟨hr0, hp0⟩
end Go.Proofs.Ytdmbgjpidlllcaa.RqPlain

