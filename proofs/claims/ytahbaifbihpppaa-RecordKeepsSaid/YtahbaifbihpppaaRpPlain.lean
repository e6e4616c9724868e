/- Plain: the program's reader of records (a place, and a first error that stays) reads what the document says. No conditions. -/
import Derived.Test.YtahbaifbihpppaaRcRefRd
namespace Go.Proofs.Ytahbaifbihpppaa.RpPlain
open Go Less LbSpec RcSpec RcRefGt RcRefRd Plain

/-- Where a reader stands, and its error. -/
abbrev RS := Int × Nat
def rnum (b : List UInt8) (s : RS) : Nat × RS := if s.2 ≠ 0 then (0, s) else ((getN b s.1).toNat, (getTo b s.1, (getE b s.1).toNat))
def rtextN (b : List UInt8) (n : Nat × RS) : List UInt8 × RS :=
  if n.2.2 ≠ 0 then ([], n.2) else if (b.length : Int) - n.2.1 < (n.1 : Int) then ([], (n.2.1, 5)) else ((b.drop n.2.1.toNat).take n.1, (n.2.1 + (n.1 : Int), 0))
def rtext (b : List UInt8) (s : RS) : List UInt8 × RS := rtextN b (rnum b s)
def rl (b : List UInt8) (s : RS) : Nat → List Lab × RS
  | 0 => ([], s)
  | k + 1 => ((rl b s k).1 ++ [((rtext b (rl b s k).2).1, (rtext b (rtext b (rl b s k).2).2).1)], (rtext b (rtext b (rl b s k).2).2).2)
def rlabsN (b : List UInt8) (n : Nat × RS) : List Lab × RS := if 16 < n.1 then ([], (n.2.1, 3)) else rl b n.2 n.1
def rlabs (b : List UInt8) (s : RS) : List Lab × RS := rlabsN b (rnum b s)
def rrec (b : List UInt8) (s : RS) : Rec × RS :=
  (⟨zagN (rnum b s).1, (rnum b (rnum b s).2).1, (rlabs b (rnum b (rnum b s).2).2).1, (rtext b (rlabs b (rnum b (rnum b s).2).2).2).1⟩, (rtext b (rlabs b (rnum b (rnum b s).2).2).2).2)
def rend (r : Rec × RS) : Nat := if r.2.2 = 0 then check r.1 else r.2.2
def rget (b : List UInt8) (at_ : Int) : Nat × Rec × Int := if rend (rrec b (at_, 0)) ≠ 0 then (rend (rrec b (at_, 0)), RcSpec.none, 0) else (0, (rrec b (at_, 0)).1, (rrec b (at_, 0)).2.1)

theorem dec_zero : ∀ (l : List UInt8) (k acc : Nat), (dec k acc l).2.2 ≠ 0 → (dec k acc l).1 = 0
  | [], k, acc, _ => rfl
  | c :: r, k, acc, h => by
    rw [dec] at h ⊢
    split
    · rfl
    · split
      · rename_i h1 h2
        rw [if_neg h1, if_pos h2] at h
        exact dec_zero r _ _ h
      · split
        · rfl
        · rename_i h1 h2 h3
          rw [if_neg h1, if_neg h2, if_neg h3] at h
          exact absurd rfl h
theorem num_zero {l : List UInt8} (h : (num l).1 ≠ 0) : (num l).2.1 = 0 := dec_zero _ _ _ h

/-! ### Behind an error nothing is read -/
theorem rnum_bad {b : List UInt8} {s : RS} (h : s.2 ≠ 0) : rnum b s = (0, s) := by unfold rnum; rw [if_pos h]
theorem rtext_bad {b : List UInt8} {s : RS} (h : s.2 ≠ 0) : rtext b s = ([], s) := by unfold rtext rtextN; rw [rnum_bad h, if_pos h]
theorem rl_bad {b : List UInt8} {s : RS} (h : s.2 ≠ 0) : ∀ k, (rl b s k).2 = s
  | 0 => rfl
  | k + 1 => by rw [rl, rl_bad h k, rtext_bad h, rtext_bad h]
theorem rlabs_bad {b : List UInt8} {s : RS} (h : s.2 ≠ 0) : (rlabs b s).2 = s := by unfold rlabs rlabsN; rw [rnum_bad h, if_neg (by omega)]; rfl
theorem rl_len (b : List UInt8) (s : RS) : ∀ k, (rl b s k).1.length = k
  | 0 => rfl
  | k + 1 => by rw [rl, List.length_append, rl_len b s k]; rfl

/-! ### Within the bytes -/
/-- A place within the bytes. -/
def In (b : List UInt8) (s : RS) : Prop := 0 ≤ s.1 ∧ s.1 ≤ b.length
theorem rnum_ok {b : List UInt8} {p : Nat} (hp : p ≤ b.length) : ∃ p' : Nat, p' ≤ b.length ∧ (num (b.drop p)).2.2 = b.drop p' ∧
    rnum b ((p : Int), 0) = ((num (b.drop p)).2.1, ((if (num (b.drop p)).1 = 0 then (p' : Int) else 0), (num (b.drop p)).1)) ∧ (num (b.drop p)).2.1 < 18446744073709551616 := by
  obtain ⟨p', h1, h2, h3, h4, h5, h6, h7⟩ := num_at b p hp
  refine ⟨p', h2, h3, ?_, h7⟩
  unfold rnum
  rw [if_neg (by simp)]
  simp only []
  rw [h4, h5, h6]
  simp
theorem rnum_out {b : List UInt8} {at_ : Int} (h : at_ < 0 ∨ (b.length : Int) < at_) : rnum b (at_, 0) = (0, (0, 1)) := by
  unfold rnum getN getTo getE
  rw [if_neg (by simp)]
  simp only []
  rw [if_pos h, if_pos h, if_pos h]
  rfl
theorem rnum_in {b : List UInt8} {s : RS} (h : s.2 = 0 ∨ In b s) : In b (rnum b s).2 ∧ (rnum b s).1 < 18446744073709551616 := by
  obtain ⟨a, e⟩ := s
  by_cases he : e = 0
  · subst he
    by_cases ho : a < 0 ∨ (b.length : Int) < a
    · rw [rnum_out ho]
      exact ⟨⟨by simp, by simp⟩, by decide⟩
    · obtain ⟨p, rfl⟩ := Int.eq_ofNat_of_zero_le (show 0 ≤ a by omega)
      obtain ⟨p', h1, _, h3, h4⟩ := rnum_ok (b := b) (p := p) (by omega)
      rw [h3]
      refine ⟨?_, h4⟩
      unfold In
      simp only []
      split <;> omega
  · rw [rnum_bad he]
    rcases h with h | h
    · exact absurd h he
    · exact ⟨h, by simp⟩
theorem rtextN_in {b : List UInt8} {n : Nat × RS} (h : In b n.2) : In b (rtextN b n).2 := by
  unfold rtextN
  split
  · exact h
  · split
    · exact h
    · unfold In at h ⊢
      simp only []
      omega
theorem rtext_in {b : List UInt8} {s : RS} (h : s.2 = 0 ∨ In b s) : In b (rtext b s).2 := rtextN_in (rnum_in h).1
theorem rl_in {b : List UInt8} {s : RS} (h : In b s) : ∀ k, In b (rl b s k).2
  | 0 => h
  | k + 1 => rtext_in (.inr (rtext_in (.inr (rl_in h k))))
theorem rlabs_in {b : List UInt8} {s : RS} (h : In b s) : In b (rlabs b s).2 := by
  have h1 := (rnum_in (b := b) (s := s) (.inr h)).1
  unfold rlabs rlabsN
  split
  · exact h1
  · exact rl_in h1 _

/-! ### What is read -/
theorem rtext_ok {b : List UInt8} {p : Nat} (hp : p ≤ b.length) : ∃ p' : Nat, p' ≤ b.length ∧
    ((txt (b.drop p)).1 = 0 → (txt (b.drop p)).2.2 = b.drop p' ∧ rtext b ((p : Int), 0) = ((txt (b.drop p)).2.1, ((p' : Int), 0))) ∧
    ((txt (b.drop p)).1 ≠ 0 → (rtext b ((p : Int), 0)).2.2 = (txt (b.drop p)).1) := by
  obtain ⟨q, h1, h2, h3, h4⟩ := rnum_ok hp
  unfold rtext
  rw [h3, txt_of]
  generalize num (b.drop p) = N at *
  obtain ⟨e, n, l⟩ := N
  simp only at h2 h4 ⊢
  subst h2
  unfold rtextN
  by_cases he : e = 0
  · subst he
    simp only [ne_eq, not_true_eq_false, if_false, if_true]
    by_cases hs : (b.drop q).length < n
    · rw [if_pos hs]
      rw [List.length_drop] at hs
      rw [if_pos (by omega)]
      exact ⟨0, Nat.zero_le _, fun h => absurd h (by decide), fun _ => rfl⟩
    · rw [if_neg hs]
      rw [List.length_drop] at hs
      rw [if_neg (by omega)]
      refine ⟨q + n, by omega, fun _ => ⟨by rw [List.drop_drop], ?_⟩, fun h => absurd rfl h⟩
      simp
  · simp only [ne_eq, he, not_false_eq_true, if_true, if_false]
    refine ⟨0, Nat.zero_le _, ?_⟩
    simp [he]
theorem rl_ok {b : List UInt8} {p n : Nat} (hp : p ≤ b.length) : ∀ k, k ≤ n →
    ((rl b ((p : Int), 0) k).2.2 = 0 → ∃ q : Nat, q ≤ b.length ∧ (rl b ((p : Int), 0) k).2 = ((q : Int), 0) ∧ labs n (b.drop p) = after (rl b ((p : Int), 0) k).1 (labs (n - k) (b.drop q))) ∧
    ((rl b ((p : Int), 0) k).2.2 ≠ 0 → (labs n (b.drop p)).1 = (rl b ((p : Int), 0) k).2.2)
  | 0, _ => ⟨fun _ => ⟨p, hp, rfl, by rw [Nat.sub_zero]; exact (after_nil _ _).symm⟩, fun h => absurd rfl h⟩
  | k + 1, hk => by
    obtain ⟨ih1, ih2⟩ := rl_ok (n := n) hp k (by omega)
    rw [rl]
    generalize rl b ((p : Int), 0) k = R at *
    obtain ⟨acc, s⟩ := R
    simp only at ih1 ih2 ⊢
    by_cases hs : s.2 = 0
    · obtain ⟨q, hq, rfl, hl⟩ := ih1 hs
      obtain ⟨m, hm⟩ : ∃ m, n - k = m + 1 := ⟨n - k - 1, by omega⟩
      have hm2 : n - (k + 1) = m := by omega
      rw [hm] at hl
      rw [hm2]
      obtain ⟨q1, hq1, t1, t2⟩ := rtext_ok hq
      by_cases e1 : (txt (b.drop q)).1 = 0
      · obtain ⟨d1, r1⟩ := t1 e1
        rw [r1]
        simp only []
        obtain ⟨q2, hq2, u1, u2⟩ := rtext_ok hq1
        rw [← d1] at u1 u2
        by_cases e2 : (txt (txt (b.drop q)).2.2).1 = 0
        · obtain ⟨d2, r2⟩ := u1 e2
          rw [r2]
          refine ⟨fun _ => ⟨q2, hq2, rfl, ?_⟩, fun h => absurd rfl h⟩
          rw [hl, after_ok acc m e1 e2, d2]
        · have h2 := u2 e2
          refine ⟨fun h => absurd (h2.symm.trans h) e2, fun _ => ?_⟩
          rw [hl, after_e2 acc m e1 e2, h2]
      · have h1 := t2 e1
        have hb : (rtext b ((q : Int), 0)).2.2 ≠ 0 := by rw [h1]; exact e1
        rw [rtext_bad hb]
        refine ⟨fun h => absurd h hb, fun _ => ?_⟩
        rw [hl, after_e1 acc m e1, h1]
    · rw [rtext_bad hs, rtext_bad hs]
      exact ⟨fun h => absurd h hs, fun _ => ih2 hs⟩
theorem rget_err {b : List UInt8} {at_ : Int} {e : Nat} (h : rend (rrec b (at_, 0)) = e) (he : e ≠ 0) : rget b at_ = (e, RcSpec.none, 0) := by
  unfold rget
  rw [h, if_pos he]
theorem rget_ok {b : List UInt8} {p : Nat} (hp : p ≤ b.length) : ∃ p' : Nat, p' ≤ b.length ∧
    rget b (p : Int) = ((RcSpec.get (b.drop p)).1, (RcSpec.get (b.drop p)).2.1, if (RcSpec.get (b.drop p)).1 = 0 then (p' : Int) else 0) ∧ ((RcSpec.get (b.drop p)).1 = 0 → (RcSpec.get (b.drop p)).2.2 = b.drop p') := by
  have fin : ∀ {e : Nat}, e ≠ 0 → RcSpec.get (b.drop p) = (e, RcSpec.none, []) → rend (rrec b ((p : Int), 0)) = e → ∃ p' : Nat, p' ≤ b.length ∧
      rget b (p : Int) = ((RcSpec.get (b.drop p)).1, (RcSpec.get (b.drop p)).2.1, if (RcSpec.get (b.drop p)).1 = 0 then (p' : Int) else 0) ∧ ((RcSpec.get (b.drop p)).1 = 0 → (RcSpec.get (b.drop p)).2.2 = b.drop p') := by
    intro e he h1 h2
    refine ⟨0, Nat.zero_le _, ?_, ?_⟩
    · rw [h1, rget_err h2 he, if_neg he]
    · rw [h1]
      exact fun h => absurd h he
  obtain ⟨p1, hp1, a1, a2, _⟩ := rnum_ok hp
  have hg := get_eq (b.drop p)
  by_cases e1 : (num (b.drop p)).1 = 0
  case neg =>
    rw [if_pos e1] at hg
    refine fin e1 hg ?_
    have hb : (rnum b ((p : Int), 0)).2.2 ≠ 0 := by rw [a2]; exact e1
    unfold rend rrec
    simp only []
    rw [rnum_bad (s := (rnum b ((p : Int), 0)).2) hb, rlabs_bad hb, rtext_bad hb, if_neg hb, a2]
  rw [if_neg (by omega), a1] at hg
  rw [if_pos e1, e1] at a2
  generalize (num (b.drop p)).2.1 = u at *
  obtain ⟨p2, hp2, b1, b2, _⟩ := rnum_ok hp1
  unfold getA at hg
  by_cases e2 : (num (b.drop p1)).1 = 0
  case neg =>
    rw [if_pos e2] at hg
    refine fin e2 hg ?_
    have hb : (rnum b ((p1 : Int), 0)).2.2 ≠ 0 := by rw [b2]; exact e2
    unfold rend rrec
    simp only []
    rw [a2]
    simp only []
    rw [rlabs_bad hb, rtext_bad hb, if_neg hb, b2]
  rw [if_neg (by omega), b1] at hg
  rw [if_pos e2, e2] at b2
  generalize (num (b.drop p1)).2.1 = sq at *
  obtain ⟨p3, hp3, c1, c2, _⟩ := rnum_ok hp2
  unfold getB at hg
  have key : rrec b ((p : Int), 0) = (⟨zagN u, sq, (rlabsN b (rnum b ((p2 : Int), 0))).1, (rtext b (rlabsN b (rnum b ((p2 : Int), 0))).2).1⟩, (rtext b (rlabsN b (rnum b ((p2 : Int), 0))).2).2) := by
    unfold rrec
    rw [a2]
    simp only []
    rw [b2]
    rfl
  by_cases e3 : (num (b.drop p2)).1 = 0
  case neg =>
    rw [if_pos e3] at hg
    refine fin e3 hg ?_
    have hb : (rnum b ((p2 : Int), 0)).2.2 ≠ 0 := by rw [c2]; exact e3
    have hr : (rlabs b ((p2 : Int), 0)).2 = (rnum b ((p2 : Int), 0)).2 := by
      unfold rlabs rlabsN
      have hz : (rnum b ((p2 : Int), 0)).1 = 0 := by
        rw [c2]
        exact num_zero e3
      rw [if_neg (by omega), hz]
      rfl
    unfold rend
    rw [key]
    simp only []
    change (if (rtext b (rlabs b ((p2 : Int), 0)).2).2.2 = 0 then _ else (rtext b (rlabs b ((p2 : Int), 0)).2).2.2) = _
    rw [hr, rtext_bad hb, if_neg hb, c2]
  rw [if_neg (by omega), c1] at hg
  rw [if_pos e3, e3] at c2
  generalize (num (b.drop p2)).2.1 = n at *
  rw [c2] at key
  by_cases h16 : 16 < n
  · rw [if_pos h16] at hg
    refine fin (by decide) hg ?_
    unfold rend
    rw [key]
    unfold rlabsN
    simp only []
    rw [if_pos h16, rtext_bad (show (3 : Nat) ≠ 0 by decide)]
    rfl
  rw [if_neg h16] at hg
  have key2 : rlabsN b (n, ((p3 : Int), 0)) = rl b ((p3 : Int), 0) n := by unfold rlabsN; rw [if_neg h16]
  rw [key2] at key
  obtain ⟨l1, l2⟩ := rl_ok (n := n) hp3 n (Nat.le_refl _)
  generalize rl b ((p3 : Int), 0) n = R at *
  obtain ⟨acc, s⟩ := R
  simp only at l1 l2 key
  by_cases hs : s.2 = 0
  case neg =>
    have h3 := l2 hs
    have hq : getC u sq (labs n (b.drop p3)) = (s.2, RcSpec.none, []) := by unfold getC; rw [h3, if_pos hs]
    rw [hq] at hg
    refine fin hs hg ?_
    unfold rend
    rw [key]
    simp only []
    rw [rtext_bad hs, if_neg hs]
  obtain ⟨q, hq, rfl, hl⟩ := l1 hs
  rw [Nat.sub_self, after_zero] at hl
  rw [hl, getC_ok] at hg
  unfold getD at hg
  obtain ⟨q1, hq1, t1, t2⟩ := rtext_ok hq
  by_cases e4 : (txt (b.drop q)).1 = 0
  case neg =>
    rw [if_pos e4] at hg
    refine fin e4 hg ?_
    have h4 := t2 e4
    unfold rend
    rw [key]
    simp only []
    rw [h4, if_neg e4]
  obtain ⟨d4, r4⟩ := t1 e4
  rw [if_neg (by omega), d4] at hg
  rw [r4] at key
  generalize (txt (b.drop q)).2.1 = line at *
  simp only at key
  unfold getF at hg
  by_cases hc : check ⟨zagN u, sq, acc, line⟩ = 0
  · rw [if_neg (by omega)] at hg
    refine ⟨q1, hq1, ?_, fun _ => by rw [hg]⟩
    rw [hg]
    unfold rget rend
    rw [key]
    simp [hc]
  · rw [if_pos hc] at hg
    refine fin hc hg ?_
    unfold rend
    rw [key]
    simp
theorem rget_out {b : List UInt8} {at_ : Int} (h : at_ < 0 ∨ (b.length : Int) < at_) : rget b at_ = (1, RcSpec.none, 0) := by
  refine rget_err ?_ (by decide)
  have hb : ((0, 1) : RS).2 ≠ 0 := by decide
  unfold rend rrec
  simp only []
  rw [rnum_out h]
  simp only []
  rw [rnum_bad hb, rlabs_bad hb, rtext_bad hb, if_neg hb]
end Go.Proofs.Ytahbaifbihpppaa.RpPlain
