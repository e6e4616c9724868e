/- Plain facts: what is packed is unpacked again, whatever stands beside it; each shorter beginning is too short. Conditions: the list rises and has at most 65536 numbers. -/
import Derived.Test.YtfojpbbmicmooaaUnSpec
import Derived.Test.YtfojpbbmicmooaaGet
namespace Go.Proofs.Ytfojpbbmicmooaa.PkBack
open Go PkPlain Plain PkSpec UnSpec Get

theorem get_at (x r : List UInt8) (n : Nat) (hn : n < 18446744073709551616) : getE (x ++ (Lib.uvarint n ++ r)) x.length = 0 ∧ getN (x ++ (Lib.uvarint n ++ r)) x.length = n ∧ getTo (x ++ (Lib.uvarint n ++ r)) x.length = ((x.length + (Lib.uvarint n).length : Nat) : Int) := by
  have hd := dec_uvarint 9 0 0 n r rfl (by omega) (by simpa using hn) (by omega)
  have f := fin (l := x ++ (Lib.uvarint n ++ r)) (p := x.length) (n := n) (c := (Lib.uvarint n).length) (e := 0) (by simp) (by
    rw [List.drop_left' rfl, hd]
    simp)
  refine ⟨f.2.2, f.1, ?_⟩
  rw [f.2.1]
  simp
theorem get_cut (x : List UInt8) (n k : Nat) (hn : n < 18446744073709551616) (hk : k < (Lib.uvarint n).length) : getE (x ++ (Lib.uvarint n).take k) x.length = 5 := by
  have hd := dec_short 0 0 n k (by simpa using hn) (by omega) hk
  have f := fin (l := x ++ (Lib.uvarint n).take k) (p := x.length) (n := 0) (c := 0) (e := 5) (by simp) (by
    rw [List.drop_left' rfl, hd])
  exact f.2.2

theorem gaps_cons (x y : UInt64) (r : List UInt64) : gaps (x :: y :: r) = (y.toNat - x.toNat - 1) :: gaps (y :: r) := rfl
theorem rising_tail {x : UInt64} {r : List UInt64} (h : Rising (x :: r)) : Rising r := fun i hi hk => by
  have := h (i + 1) (by simpa using hi) (by simpa using hk)
  simpa using this
theorem run_gaps : ∀ (l : List UInt64) (x : UInt64), Rising (x :: l) → run x.toNat (gaps (x :: l)) = some (x :: l)
  | [], x, _ => by simp [gaps, run]
  | y :: r, x, h => by
    have h0 := h 0 (by simp) (by simp)
    simp only [List.getElem_cons_zero, List.getElem_cons_succ] at h0
    have hy := y.toNat_lt
    have ih := run_gaps r y (rising_tail h)
    rw [gaps_cons, run, if_neg (by omega)]
    have e : x.toNat + (y.toNat - x.toNat - 1) + 1 = y.toNat := by omega
    rw [e, ih]
    simp
theorem cuts_gaps (l : List UInt64) : ∀ m, m ≤ l.length - 1 → cuts (stk l) (wd l) m = (gaps l).take m
  | 0, _ => rfl
  | m + 1, hm => by
    have hl : m < (gaps l).length := by rw [gaps_length]; omega
    rw [cuts, cuts_gaps l m (by omega), List.take_succ_eq_append_getElem hl]
    congr 2
    have := stack_at (wd_lt l) hl
    rw [Nat.mul_comm] at this
    exact this
theorem cuts_all (l : List UInt64) : cuts (stk l) (wd l) (l.length - 1) = gaps l := by
  rw [cuts_gaps l _ (Nat.le_refl _), List.take_of_length_le (by rw [gaps_length]; exact Nat.le_refl _)]
theorem stk_digs (l : List UInt64) : num (digs (size8 l) (stk l)) = stk l := by
  rw [num_digs]
  apply Nat.mod_eq_of_lt
  have h1 := stk_lt l
  have h2 : 2 ^ total l ≤ 256 ^ size8 l := by
    rw [show (256 : Nat) = 2 ^ 8 from rfl, ← Nat.pow_mul]
    apply Nat.pow_le_pow_right (by omega)
    unfold size8
    omega
  omega

/-- The body of a packed list. -/
theorem body_pk (l : List UInt64) (x y : List UInt8) (h2 : 2 ≤ l.length) (hr : Rising l) : body (x ++ ((wd l).toUInt8 :: (digs (size8 l) (stk l) ++ y))) l.length (l[0]'(by omega)).toNat x.length = (0, l, ((x.length + 1 + size8 l : Nat) : Int)) := by
  have hw := width_64 l
  have e1 : (x ++ ((wd l).toUInt8 :: (digs (size8 l) (stk l) ++ y))).getD x.length 0 = (wd l).toUInt8 := by
    simp [List.getD_eq_getElem?_getD]
  have e2 : ((wd l).toUInt8).toNat = wd l := by
    simp
    unfold wd
    omega
  have e3 : ((l.length - 1) * wd l + 7) / 8 = size8 l := rfl
  have e4 : ((x ++ ((wd l).toUInt8 :: (digs (size8 l) (stk l) ++ y))).drop (x.length + 1)).take (size8 l) = digs (size8 l) (stk l) := by
    have e : x ++ ((wd l).toUInt8 :: (digs (size8 l) (stk l) ++ y)) = (x ++ [(wd l).toUInt8]) ++ (digs (size8 l) (stk l) ++ y) := by simp
    rw [e, List.drop_left' (by simp), List.take_left' (digs_length _ _)]
  have hlen : (x ++ ((wd l).toUInt8 :: (digs (size8 l) (stk l) ++ y))).length = x.length + 1 + size8 l + y.length := by simp [digs_length]; omega
  unfold body
  rw [e1, e2, e3, e4, stk_digs, cuts_all, if_neg (by omega), if_neg (by unfold wd; omega), if_neg (by omega)]
  have hrun : run (l[0]'(by omega)).toNat (gaps l) = some l := by
    match l, h2 with
    | a :: r, _ => exact run_gaps r a hr
  rw [hrun]
  simp only
  rw [if_pos ⟨stk_lt l, rfl⟩]

/-- What is packed is unpacked again. -/
theorem unp_pk (l : List UInt64) (x y : List UInt8) (hl : l.length ≤ 65536) (hr : Rising l) : unp (x ++ (pk l ++ y)) x.length = (0, l, ((x.length + (pk l).length : Nat) : Int)) := by
  have e0 : x ++ (pk l ++ y) = x ++ (Lib.uvarint l.length ++ (head1 l ++ (tail2 l ++ y))) := by simp [pk]
  obtain ⟨g1, g2, g3⟩ := get_at x (head1 l ++ (tail2 l ++ y)) l.length (by omega)
  rw [← e0] at g1 g2 g3
  unfold unp
  rw [g1, g2, g3, if_neg (by omega), if_neg (by omega)]
  by_cases h0 : l.length = 0
  · rw [if_pos (by omega)]
    have hn : l = [] := List.eq_nil_of_length_eq_zero h0
    subst hn
    simp [pk, head1, tail2]
  · rw [if_neg (by omega)]
    have hh := head1_at (l := l) (by omega)
    have hx0 := (l[0]'(by omega)).toNat_lt
    obtain ⟨k1, k2, k3⟩ := get_at (x ++ Lib.uvarint l.length) (tail2 l ++ y) (l[0]'(by omega)).toNat hx0
    have e1 : x ++ (pk l ++ y) = (x ++ Lib.uvarint l.length) ++ (Lib.uvarint (l[0]'(by omega)).toNat ++ (tail2 l ++ y)) := by rw [e0, hh]; simp
    rw [← e1, List.length_append] at k1 k2 k3
    rw [k1, k2, k3, if_neg (by omega)]
    by_cases h1 : l.length = 1
    · rw [if_pos (by omega)]
      obtain ⟨a, rfl⟩ := List.length_eq_one_iff.1 h1
      simp [pk, head1, tail2]
      try omega
    · rw [if_neg (by omega)]
      have ht : tail2 l = (wd l).toUInt8 :: digs (size8 l) (stk l) := by unfold tail2; rw [if_neg (by omega)]
      have hb := body_pk l (x ++ Lib.uvarint l.length ++ Lib.uvarint (l[0]'(by omega)).toNat) y (by omega) hr
      have e2 : x ++ (pk l ++ y) = x ++ Lib.uvarint l.length ++ Lib.uvarint (l[0]'(by omega)).toNat ++ ((wd l).toUInt8 :: (digs (size8 l) (stk l) ++ y)) := by rw [e1, ht]; simp
      rw [← e2, List.length_append, List.length_append] at hb
      rw [Int.toNat_natCast, Int.toNat_natCast, Int.toNat_natCast, hb]
      have hpl : (pk l).length = (Lib.uvarint l.length).length + (Lib.uvarint (l[0]'(by omega)).toNat).length + 1 + size8 l := by
        unfold pk
        rw [hh, ht]
        simp [digs_length]
        omega
      rw [hpl]
      congr 2
      omega

/-- Each shorter beginning is too short. -/
theorem unp_short (l : List UInt64) (hl : l.length ≤ 65536) (k : Nat) (hk : k < (pk l).length) : (unp ((pk l).take k) 0).1 = 5 := by
  have hpk : (pk l).length = (Lib.uvarint l.length).length + ((head1 l).length + (tail2 l).length) := by simp [pk]
  by_cases hu : k < (Lib.uvarint l.length).length
  · have e0 : (pk l).take k = [] ++ (Lib.uvarint l.length).take k := by
      unfold pk
      rw [List.take_append_of_le_length (by omega), List.nil_append]
    have g := get_cut [] l.length k (by omega) hu
    rw [← e0] at g
    unfold unp
    rw [show ((([] : List UInt8).length : Nat) : Int) = 0 from rfl] at g
    rw [g]
    rfl
  · obtain ⟨k1, hk1⟩ : ∃ k1, k = (Lib.uvarint l.length).length + k1 := ⟨k - (Lib.uvarint l.length).length, by omega⟩
    have e0 : (pk l).take k = Lib.uvarint l.length ++ (head1 l ++ tail2 l).take k1 := by
      unfold pk
      rw [List.take_append, List.take_of_length_le (by omega), hk1]
      congr 2
      omega
    obtain ⟨g1, g2, g3⟩ := get_at [] ((head1 l ++ tail2 l).take k1) l.length (by omega)
    rw [List.nil_append, ← e0] at g1 g2 g3
    rw [show ((([] : List UInt8).length : Nat) : Int) = 0 from rfl] at g1 g2 g3
    have hz : l.length = 0 → (head1 l).length = 0 ∧ (tail2 l).length = 0 := by
      intro h0
      have hn : l = [] := List.eq_nil_of_length_eq_zero h0
      rw [hn]
      simp [head1, tail2]
    have hn : l.length ≠ 0 := by
      intro h0
      obtain ⟨a1, a2⟩ := hz h0
      omega
    have hh := head1_at (l := l) (by omega)
    have hx0 := (l[0]'(by omega)).toNat_lt
    unfold unp
    rw [g1, g2, g3, if_neg (by omega), if_neg (by omega), if_neg (by omega)]
    simp only [List.length_nil, Nat.zero_add]
    by_cases hu2 : k1 < (head1 l).length
    · have e1 : (pk l).take k = Lib.uvarint l.length ++ (Lib.uvarint (l[0]'(by omega)).toNat).take k1 := by
        rw [e0, List.take_append_of_le_length (by omega), hh]
      have g := get_cut (Lib.uvarint l.length) (l[0]'(by omega)).toNat k1 hx0 (by rw [← hh]; exact hu2)
      rw [← e1] at g
      rw [g]
      rfl
    · obtain ⟨k2, hk2⟩ : ∃ k2, k1 = (head1 l).length + k2 := ⟨k1 - (head1 l).length, by omega⟩
      have e1 : (pk l).take k = Lib.uvarint l.length ++ (Lib.uvarint (l[0]'(by omega)).toNat ++ (tail2 l).take k2) := by
        rw [e0, List.take_append, List.take_of_length_le (by omega), hh, hk2]
        congr 3
        rw [hh]
        omega
      obtain ⟨q1, q2, q3⟩ := get_at (Lib.uvarint l.length) ((tail2 l).take k2) (l[0]'(by omega)).toNat hx0
      rw [← e1] at q1 q2 q3
      rw [q1, q2, q3, if_neg (by omega)]
      have ht2 : k2 < (tail2 l).length := by omega
      have h2 : 2 ≤ l.length := by
        rcases Nat.lt_or_ge l.length 2 with h | h
        · unfold tail2 at ht2
          rw [if_pos h] at ht2
          simp at ht2
        · exact h
      rw [if_neg (by omega)]
      have ht : tail2 l = (wd l).toUInt8 :: digs (size8 l) (stk l) := by unfold tail2; rw [if_neg (by omega)]
      have hlen : ((pk l).take k).length = (Lib.uvarint l.length).length + (Lib.uvarint (l[0]'(by omega)).toNat).length + k2 := by
        rw [e1]
        simp
        omega
      have hw := width_64 l
      rw [Int.toNat_natCast, Int.toNat_natCast, Int.toNat_natCast]
      unfold body
      rw [hlen]
      by_cases h0 : k2 = 0
      · rw [if_pos (by omega)]
      · obtain ⟨k3, rfl⟩ : ∃ k3, k2 = k3 + 1 := ⟨k2 - 1, by omega⟩
        have eW : ((pk l).take k).getD ((Lib.uvarint l.length).length + (Lib.uvarint (l[0]'(by omega)).toNat).length) 0 = (wd l).toUInt8 := by
          rw [e1, ht]
          simp [List.getD_eq_getElem?_getD, List.getElem?_append_right]
        have e2 : ((wd l).toUInt8).toNat = wd l := by
          simp
          unfold wd
          omega
        have e3 : ((l.length - 1) * wd l + 7) / 8 = size8 l := rfl
        rw [eW, e2, e3, if_neg (by omega), if_neg (by unfold wd; omega), if_pos (by
          rw [ht] at ht2
          simp [digs_length] at ht2
          omega)]
end Go.Proofs.Ytfojpbbmicmooaa.PkBack
