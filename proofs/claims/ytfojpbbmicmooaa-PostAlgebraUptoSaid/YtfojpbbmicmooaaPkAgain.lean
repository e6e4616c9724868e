/- Plain facts: what is unpacked is a rising list, and packs as the bytes that were read. No conditions. -/
import Derived.Test.YtfojpbbmicmooaaPkBack
namespace Go.Proofs.Ytfojpbbmicmooaa.PkAgain
open Go PkPlain Plain PkSpec UnSpec PkBack

theorem get_back (b : List UInt8) (p : Nat) (hp : p ≤ b.length) (h : getE b p = 0) :
    ∃ n : Nat, n < 18446744073709551616 ∧ getN b p = (n : Int) ∧ getTo b p = ((p + (Lib.uvarint n).length : Nat) : Int) ∧ p + (Lib.uvarint n).length ≤ b.length ∧ (b.drop p).take (Lib.uvarint n).length = Lib.uvarint n := by
  have h' : ¬ ((p : Int) < 0 ∨ (b.length : Int) < p) := by omega
  unfold getE at h
  unfold getN getTo
  rw [if_neg h'] at h ⊢
  rw [if_neg h']
  rw [Int.toNat_natCast] at h ⊢
  generalize hd : dec 0 0 (b.drop p) = d at *
  obtain ⟨n, c, e⟩ := d
  have he : e = 0 := by simpa using h
  subst he
  obtain ⟨x, h1, h2, h3, h4, _, h6⟩ := dec_back (b.drop p) 0 0 n c (by omega) (by decide) hd
  simp only [Nat.zero_add, Nat.pow_zero, Nat.mul_one] at h1 h2
  subst h1 h2
  rw [List.length_drop] at h3
  exact ⟨n, h6, rfl, by simp, by omega, h4⟩

theorem stack_snoc (w : Nat) : ∀ (gs : List Nat) (d : Nat), stack w (gs ++ [d]) = stack w gs + 2 ^ (w * gs.length) * d
  | [], d => by simp [stack]
  | g :: r, d => by
    rw [List.cons_append, stack, stack_snoc w r d, stack, List.length_cons, Nat.mul_succ, Nat.pow_add, Nat.mul_add, Nat.add_assoc]
    congr 2
    simp only [Nat.mul_comm, Nat.mul_left_comm]
theorem stack_cuts (M w : Nat) : ∀ m, stack w (cuts M w m) = M % 2 ^ (m * w)
  | 0 => by simp [stack, cuts, Nat.mod_one]
  | m + 1 => by
    rw [cuts, stack_snoc, stack_cuts M w m, cuts_length, Nat.mul_comm w m, Nat.succ_mul, Nat.pow_add, Nat.mod_mul]

theorem rising_cons {a c : UInt64} {r : List UInt64} (h : a.toNat < c.toNat) (hr : Rising (c :: r)) : Rising (a :: c :: r) := by
  intro i hi hk
  match i with
  | 0 => simpa using h
  | i + 1 =>
    have := hr i (by simpa using hi) (by simpa using hk)
    simpa using this
theorem run_back : ∀ (ds : List Nat) (x : Nat) (l : List UInt64), x < 18446744073709551616 → run x ds = some l → ∃ r, l = x.toUInt64 :: r ∧ gaps l = ds ∧ Rising l
  | [], x, l, _, h => by
    simp only [run, Option.some.injEq] at h
    subst h
    exact ⟨[], rfl, rfl, fun i hi _ => by simp at hi⟩
  | d :: ds, x, l, hx, h => by
    rw [run] at h
    split at h
    · cases h
    · rename_i hd
      cases hr : run (x + d + 1) ds with
      | none => rw [hr] at h; cases h
      | some l' =>
        rw [hr] at h
        simp only [Option.map_some, Option.some.injEq] at h
        subst h
        obtain ⟨r, e, g, q⟩ := run_back ds (x + d + 1) l' (by omega) hr
        subst e
        have e1 : (x.toUInt64).toNat = x := by simp; omega
        have e2 : ((x + d + 1).toUInt64).toNat = x + d + 1 := by simp; omega
        refine ⟨_, rfl, ?_, rising_cons (by omega) q⟩
        rw [gaps_cons, g, e1, e2]
        congr 1
        omega

theorem body_back (b : List UInt8) (n x p : Nat) (l : List UInt64) (to : Int) (hn : 2 ≤ n) (hx : x < 18446744073709551616) (h : body b n x p = (0, l, to)) :
    ∃ r, l = x.toUInt64 :: r ∧ Rising l ∧ l.length = n ∧ to = ((p + (tail2 l).length : Nat) : Int) ∧ p + (tail2 l).length ≤ b.length ∧ (b.drop p).take (tail2 l).length = tail2 l := by
  unfold body at h
  by_cases h1 : b.length ≤ p
  · rw [if_pos h1] at h; simp at h
  rw [if_neg h1] at h
  by_cases h2 : 64 < (b.getD p 0).toNat
  · rw [if_pos h2] at h; simp at h
  rw [if_neg h2] at h
  have hW : b.getD p 0 = b[p]'(by omega) := by simp [List.getD_eq_getElem?_getD, List.getElem?_eq_getElem (show p < b.length by omega)]
  have hdrop : b.drop p = b[p]'(by omega) :: b.drop (p + 1) := List.drop_eq_getElem_cons (by omega)
  rw [← hW] at hdrop
  generalize hw : b.getD p 0 = wb at *
  generalize hs : ((n - 1) * wb.toNat + 7) / 8 = sz at *
  by_cases h3 : b.length < p + 1 + sz
  · rw [if_pos h3] at h; simp at h
  rw [if_neg h3] at h
  generalize hD : (b.drop (p + 1)).take sz = D at *
  have hDl : D.length = sz := by rw [← hD, List.length_take, List.length_drop]; omega
  cases hr : run x (cuts (num D) wb.toNat (n - 1)) with
  | none => rw [hr] at h; simp at h
  | some l' =>
    rw [hr] at h
    dsimp only at h
    by_cases h4 : num D < 2 ^ ((n - 1) * wb.toNat) ∧ width (cuts (num D) wb.toNat (n - 1)) = wb.toNat
    · rw [if_pos h4] at h
      simp only [Prod.mk.injEq, true_and] at h
      obtain ⟨rfl, rfl⟩ := h
      obtain ⟨r, e, g, q⟩ := run_back _ _ _ hx hr
      have hlen : l'.length = n := by
        have := run_length hr
        rw [cuts_length] at this
        omega
      have ew : wd l' = wb.toNat := by unfold wd; rw [g]; exact h4.2
      have et : total l' = (n - 1) * wb.toNat := by unfold total; rw [ew, hlen]
      have es : stk l' = num D := by
        unfold stk
        rw [g, ew, stack_cuts]
        exact Nat.mod_eq_of_lt h4.1
      have e8 : size8 l' = sz := by unfold size8; rw [et, hs]
      have tl : tail2 l' = wb :: D := by
        unfold tail2
        rw [if_neg (by omega), ew, e8, es]
        congr 1
        · simp
        · rw [← hDl, digs_num]
      refine ⟨r, e, q, hlen, ?_, ?_, ?_⟩
      · rw [tl, List.length_cons, hDl]; congr 1; omega
      · rw [tl, List.length_cons, hDl]; omega
      · rw [tl, List.length_cons, hDl, hdrop, List.take_succ_cons, hD]
    · rw [if_neg h4] at h; simp at h

/-- What is unpacked is a rising list of at most 65536 numbers, and its bytes are those that were read. -/
theorem unp_back (b : List UInt8) (l : List UInt64) (to : Int) (h : unp b 0 = (0, l, to)) :
    Rising l ∧ l.length ≤ 65536 ∧ to = ((pk l).length : Int) ∧ (pk l).length ≤ b.length ∧ b.take (pk l).length = pk l := by
  unfold unp at h
  by_cases h0 : getE b 0 ≠ 0
  · rw [if_pos h0] at h
    simp only [Prod.mk.injEq] at h
    exact absurd h.1 h0
  rw [if_neg h0] at h
  obtain ⟨n, hn, n1, n2, n3, n4⟩ := get_back b 0 (by omega) (by simpa using h0)
  rw [show (((0 : Nat) : Nat) : Int) = 0 from rfl] at n1 n2
  rw [Nat.zero_add] at n2 n3
  rw [List.drop_zero] at n4
  rw [n1, n2] at h
  by_cases h1 : (65536 : Int) < n
  · rw [if_pos h1] at h; simp at h
  rw [if_neg h1] at h
  have hsplit : b = Lib.uvarint n ++ b.drop (Lib.uvarint n).length := by
    have := (List.take_append_drop (Lib.uvarint n).length b).symm
    rw [n4] at this
    exact this
  by_cases h2 : (n : Int) = 0
  · rw [if_pos h2] at h
    simp only [Prod.mk.injEq, true_and] at h
    obtain ⟨rfl, rfl⟩ := h
    have hz : n = 0 := by omega
    subst hz
    have e : pk [] = Lib.uvarint 0 := by simp [pk, head1, tail2]
    rw [e]
    exact ⟨fun i hi _ => by simp at hi, by simp, rfl, n3, n4⟩
  rw [if_neg h2] at h
  by_cases h3 : getE b ((Lib.uvarint n).length : Int) ≠ 0
  · rw [if_pos h3] at h
    simp only [Prod.mk.injEq] at h
    exact absurd h.1 h3
  rw [if_neg h3] at h
  obtain ⟨x, hx, x1, x2, x3, x4⟩ := get_back b (Lib.uvarint n).length n3 (by simpa using h3)
  rw [x1, x2] at h
  have ex : (x.toUInt64).toNat = x := by simp; omega
  have hsplit2 : b.drop (Lib.uvarint n).length = Lib.uvarint x ++ b.drop ((Lib.uvarint n).length + (Lib.uvarint x).length) := by
    have := (List.take_append_drop (Lib.uvarint x).length (b.drop (Lib.uvarint n).length)).symm
    rw [x4, List.drop_drop] at this
    exact this
  by_cases h4 : (n : Int) = 1
  · rw [if_pos h4] at h
    simp only [Prod.mk.injEq, true_and] at h
    obtain ⟨rfl, rfl⟩ := h
    have hz : n = 1 := by omega
    subst hz
    have e : pk [(x : Int).toNat.toUInt64] = Lib.uvarint 1 ++ Lib.uvarint x := by
      rw [Int.toNat_natCast]
      simp only [pk, head1, tail2, List.length_cons, List.length_nil]
      rw [ex]
      simp
    rw [e]
    refine ⟨fun i hi _ => by simp at hi, by simp, by simp, by simp; omega, ?_⟩
    rw [hsplit, hsplit2, ← List.append_assoc]
    exact List.take_left' rfl
  rw [if_neg h4, Int.toNat_natCast, Int.toNat_natCast, Int.toNat_natCast] at h
  obtain ⟨r, e, q, hl, ht, h5, h6⟩ := body_back b n x _ l to (by omega) hx h
  have e0 : head1 l = Lib.uvarint x := by rw [e]; simp only [head1]; rw [ex]
  have e1 : pk l = Lib.uvarint n ++ (Lib.uvarint x ++ tail2 l) := by unfold pk; rw [hl, e0]
  have e2 : (pk l).length = (Lib.uvarint n).length + (Lib.uvarint x).length + (tail2 l).length := by rw [e1]; simp; omega
  have hsplit3 : b.drop ((Lib.uvarint n).length + (Lib.uvarint x).length) = tail2 l ++ b.drop ((Lib.uvarint n).length + (Lib.uvarint x).length + (tail2 l).length) := by
    have := (List.take_append_drop (tail2 l).length (b.drop ((Lib.uvarint n).length + (Lib.uvarint x).length))).symm
    rw [h6, List.drop_drop] at this
    exact this
  refine ⟨q, by omega, by rw [ht, e2], by omega, ?_⟩
  have e3 : b = pk l ++ b.drop ((Lib.uvarint n).length + (Lib.uvarint x).length + (tail2 l).length) := by
    rw [e1]
    conv => lhs; rw [hsplit, hsplit2, hsplit3]
    simp
  rw [e3]
  simp
end Go.Proofs.Ytfojpbbmicmooaa.PkAgain
