/- Plain facts on numbers by sevens of bits (no program in this text): 'dec' is the reading of a number out of a list of bytes, 'getA' the reading at a place; what is read is the number that was written. No conditions. -/
import Derived.Lib.Varint
import Derived.Lib.VarintBits
import Derived.Lib.Zigzag
namespace Go.Proofs.YtjninegpaoblfaaGreatDoor.Plain
open Go

/-- A number read: k bytes are behind us, they say acc. The number, how many bytes it has in all, the error. -/
def dec (k acc : Nat) : List UInt8 → Nat × Nat × Nat
  | [] => (0, 0, 5)
  | c :: r =>
    if k = 9 ∧ 1 < c.toNat then (0, 0, 6)
    else if 128 ≤ c.toNat then dec (k + 1) (acc + c.toNat % 128 * 128 ^ k) r
    else if c.toNat = 0 ∧ 0 < k then (0, 0, 6)
    else (acc + c.toNat * 128 ^ k, k + 1, 0)

/-- A number read at a place. -/
def getN (l : List UInt8) (at_ : Int) : Int := if at_ < 0 ∨ (l.length : Int) < at_ then 0 else ((dec 0 0 (l.drop at_.toNat)).1 : Int)
def getE (l : List UInt8) (at_ : Int) : Int := if at_ < 0 ∨ (l.length : Int) < at_ then 1 else ((dec 0 0 (l.drop at_.toNat)).2.2 : Int)
def getTo (l : List UInt8) (at_ : Int) : Int := if at_ < 0 ∨ (l.length : Int) < at_ then 0 else if (dec 0 0 (l.drop at_.toNat)).2.2 = 0 then at_ + ((dec 0 0 (l.drop at_.toNat)).2.1 : Int) else 0

theorem drop_cons {l : List UInt8} {k : Nat} (h : k < l.length) : l.drop k = l[k] :: l.drop (k + 1) := List.drop_eq_getElem_cons h

section
variable {l : List UInt8} {k acc : Nat}
theorem dec_end (h : l.length ≤ k) : dec k acc (l.drop k) = (0, 0, 5) := by rw [List.drop_eq_nil_of_le h]; rfl
theorem dec_ten (h : k < l.length) (h9 : k = 9) (hc : 1 < l[k].toNat) : dec k acc (l.drop k) = (0, 0, 6) := by
  rw [drop_cons h, dec, if_pos ⟨h9, hc⟩]
theorem dec_more (h : k < l.length) (h9 : ¬ (k = 9 ∧ 1 < l[k].toNat)) (hc : 128 ≤ l[k].toNat) : dec k acc (l.drop k) = dec (k + 1) (acc + l[k].toNat % 128 * 128 ^ k) (l.drop (k + 1)) := by
  rw [drop_cons h, dec, if_neg h9, if_pos hc]
theorem dec_zero (h : k < l.length) (hc : l[k].toNat = 0) (hk : 0 < k) : dec k acc (l.drop k) = (0, 0, 6) := by
  rw [drop_cons h, dec, if_neg (by omega), if_neg (by omega), if_pos ⟨hc, hk⟩]
theorem dec_last (h : k < l.length) (h9 : ¬ (k = 9 ∧ 1 < l[k].toNat)) (hc : l[k].toNat < 128) (h0 : ¬ (l[k].toNat = 0 ∧ 0 < k)) : dec k acc (l.drop k) = (acc + l[k].toNat * 128 ^ k, k + 1, 0) := by
  rw [drop_cons h, dec, if_neg h9, if_neg (by omega), if_neg h0]
end

/-- 'n | c << 7k' is a sum. -/
theorem or_shl (k acc c : Nat) (hk : k ≤ 9) (hacc : acc < 128 ^ k) (hc : c < 128) (h9 : k = 9 → c ≤ 1) :
    bits .or .u64 (acc : Int) ((c * 128 ^ k : Nat) : Int) = ((acc + c * 128 ^ k : Nat) : Int) ∧ acc + c * 128 ^ k < 18446744073709551616 ∧ (k < 9 → acc + c * 128 ^ k < 128 ^ (k + 1)) := by
  have hs : k = 0 ∨ k = 1 ∨ k = 2 ∨ k = 3 ∨ k = 4 ∨ k = 5 ∨ k = 6 ∨ k = 7 ∨ k = 8 ∨ k = 9 := by omega
  rcases hs with rfl | rfl | rfl | rfl | rfl | rfl | rfl | rfl | rfl | rfl
  · simp only [Nat.pow_zero, Nat.mul_one] at hacc ⊢
    refine ⟨?_, by omega, by omega⟩
    rw [u64_orv0 _ _ (by omega) (by omega) (by omega) (by omega) (by omega)]; omega
  · simp only [Nat.reducePow, Nat.reduceAdd] at hacc ⊢
    refine ⟨?_, by omega, by omega⟩
    rw [u64_orv7 _ _ (by omega) (by omega) (by omega) (by omega) (by omega)]; omega
  · simp only [Nat.reducePow, Nat.reduceAdd] at hacc ⊢
    refine ⟨?_, by omega, by omega⟩
    rw [u64_orv14 _ _ (by omega) (by omega) (by omega) (by omega) (by omega)]; omega
  · simp only [Nat.reducePow, Nat.reduceAdd] at hacc ⊢
    refine ⟨?_, by omega, by omega⟩
    rw [u64_orv21 _ _ (by omega) (by omega) (by omega) (by omega) (by omega)]; omega
  · simp only [Nat.reducePow, Nat.reduceAdd] at hacc ⊢
    refine ⟨?_, by omega, by omega⟩
    rw [u64_orv28 _ _ (by omega) (by omega) (by omega) (by omega) (by omega)]; omega
  · simp only [Nat.reducePow, Nat.reduceAdd] at hacc ⊢
    refine ⟨?_, by omega, by omega⟩
    rw [u64_orv35 _ _ (by omega) (by omega) (by omega) (by omega) (by omega)]; omega
  · simp only [Nat.reducePow, Nat.reduceAdd] at hacc ⊢
    refine ⟨?_, by omega, by omega⟩
    rw [u64_orv42 _ _ (by omega) (by omega) (by omega) (by omega) (by omega)]; omega
  · simp only [Nat.reducePow, Nat.reduceAdd] at hacc ⊢
    refine ⟨?_, by omega, by omega⟩
    rw [u64_orv49 _ _ (by omega) (by omega) (by omega) (by omega) (by omega)]; omega
  · simp only [Nat.reducePow, Nat.reduceAdd] at hacc ⊢
    refine ⟨?_, by omega, by omega⟩
    rw [u64_orv56 _ _ (by omega) (by omega) (by omega) (by omega) (by omega)]; omega
  · simp only [Nat.reducePow, Nat.reduceAdd] at hacc ⊢
    refine ⟨?_, by omega, by omega⟩
    rw [u64_orv63 _ _ (by omega) (by omega) (by omega) (by omega) (by omega)]; omega

theorem uv_more : ∀ (i n : Nat), i + 1 < (Lib.uvarint n).length → 128 ≤ ((Lib.uvarint n).getD i 0).toNat
  | 0, n, h => by
    by_cases hn : n < 128
    · rw [Lib.uvarint_small hn] at h; simp at h
    · rw [Lib.uvarint_big (by omega)]; simp; omega
  | i + 1, n, h => by
    by_cases hn : n < 128
    · rw [Lib.uvarint_small hn] at h; simp at h
    · rw [Lib.uvarint_big (by omega)] at h ⊢
      exact uv_more i (n / 128) (by simpa using h)
theorem uv_last : ∀ (k n : Nat), (Lib.uvarint n).length = k + 1 → ((Lib.uvarint n).getD k 0).toNat < 128 ∧ (((Lib.uvarint n).getD k 0).toNat = 0 → n = 0)
  | 0, n, h => by
    by_cases hn : n < 128
    · rw [Lib.uvarint_small hn]; simp; omega
    · rw [Lib.uvarint_big (by omega)] at h
      have := Lib.uvarint_pos (n / 128)
      rw [List.length_cons] at h; omega
  | k + 1, n, h => by
    by_cases hn : n < 128
    · rw [Lib.uvarint_small hn] at h; simp at h
    · rw [Lib.uvarint_big (by omega)] at h ⊢
      have := uv_last k (n / 128) (by simpa using h)
      refine ⟨this.1, fun h0 => ?_⟩
      have := this.2 h0
      omega
/-- How many bytes: k are counted, m is left. -/
def left_ (m : Nat) : Nat := if m = 0 then 0 else (Lib.uvarint m).length
theorem left_step (m : Nat) (h : m ≠ 0) : left_ m = 1 + left_ (m / 128) := by
  unfold left_
  rw [if_neg h]
  by_cases hm : m < 128
  · rw [Lib.uvarint_small hm, if_pos (by omega)]; rfl
  · rw [Lib.uvarint_big (by omega), if_neg (by omega)]; simp; omega
theorem uv_left (n : Nat) : (Lib.uvarint n).length = 1 + left_ (n / 128) := by
  by_cases h : n = 0
  · subst h; rw [Lib.uvarint_small (by omega)]; rfl
  · rw [← left_step n h]; unfold left_; rw [if_neg h]
theorem left_zero : left_ 0 = 0 := rfl
theorem left_pos (m : Nat) (h : m ≠ 0) : 0 < left_ m := by rw [left_step m h]; omega

/-- The shortest forms, one behind the other. -/
def encs (l : List UInt64) : List UInt8 := l.flatMap fun n => Lib.uvarint n.toNat
theorem encs_length (l : List UInt64) : (encs l).length ≤ 10 * l.length := by
  induction l with
  | nil => simp [encs]
  | cons a r ih =>
    have h := Lib.uvarint_length64 (x := a.toNat) a.toNat_lt
    simp only [encs, List.flatMap_cons, List.length_append, List.length_cons] at ih ⊢
    omega
theorem encs_one (n : UInt64) : encs [n] = Lib.uvarint n.toNat := by simp [encs]
theorem encs_snoc {l : List UInt64} {k : Nat} (h : k < l.length) : encs (l.take (k + 1)) = encs (l.take k) ++ Lib.uvarint l[k].toNat := by
  rw [List.take_succ_eq_append_getElem h, encs, List.flatMap_append]
  simp [encs]

theorem andNot128_all : ∀ a : Fin 256, bits .andNot .u8 ((a.val : Nat) : Int) 128 = ((a.val % 128 : Nat) : Int) := by decide +kernel
theorem andNot128 (x : Nat) (h : x < 256) : bits .andNot .u8 (x : Int) 128 = ((x % 128 : Nat) : Int) := andNot128_all ⟨x, h⟩
theorem two_pow7 (k : Nat) : (2 : Int) ^ (7 * k) = ((128 ^ k : Nat) : Int) := by
  rw [Int.pow_mul]; simp
/-- 'n |= uint64(c&^more) << (sevens * i)'. -/
theorem step_val (k acc x : Nat) (E : Int) (hE : E = 2 ^ (7 * k)) (hk : k ≤ 9) (hacc : acc < 128 ^ k) (hx : x < 256) (h9 : k = 9 → x ≤ 1) :
    bits .or .u64 (acc : Int) (IntKind.u64.wrap (IntKind.u64.wrap (bits .andNot .u8 (x : Int) 128) * E)) = ((acc + x % 128 * 128 ^ k : Nat) : Int) := by
  have h := or_shl k acc (x % 128) hk hacc (by omega) (by omega)
  rw [andNot128 x hx, hE, two_pow7, IntKind.wrap_u64, IntKind.wrap_u64]
  have e1 : ((x % 128 : Nat) : Int) % 18446744073709551616 = ((x % 128 : Nat) : Int) := by omega
  have e2 : (((x % 128 : Nat) : Int) * ((128 ^ k : Nat) : Int)) % 18446744073709551616 = ((x % 128 * 128 ^ k : Nat) : Int) := by
    rw [← Int.natCast_mul]
    have := h.2.1
    generalize x % 128 * 128 ^ k = y at *
    omega
  rw [e1, e2, h.1]

/-- 'n + uint64(c%128)*unit', and the next unit. -/
theorem step_ref (k acc x : Nat) (hk : k ≤ 9) (hacc : acc < 128 ^ k) (h9 : k = 9 → x ≤ 1) :
    IntKind.u64.wrap ((acc : Int) + IntKind.u64.wrap ((x : Int) % 128 * ((128 ^ k : Nat) : Int))) = ((acc + x % 128 * 128 ^ k : Nat) : Int) := by
  rw [show (x : Int) % 128 = ((x % 128 : Nat) : Int) by omega]
  have h := or_shl k acc (x % 128) hk hacc (by omega) (by omega)
  rw [IntKind.wrap_u64, IntKind.wrap_u64, ← Int.natCast_mul]
  have := h.2.1
  generalize x % 128 * 128 ^ k = y at *
  omega
theorem unit_ref (k : Nat) (hk : k < 9) : IntKind.u64.wrap (((128 ^ k : Nat) : Int) * 128) = ((128 ^ (k + 1) : Nat) : Int) := by
  have h : 128 ^ (k + 1) ≤ 128 ^ 9 := Nat.pow_le_pow_right (by omega) (by omega)
  have e : 128 ^ (k + 1) = 128 ^ k * 128 := Nat.pow_succ ..
  rw [IntKind.wrap_u64, e]
  simp only [Nat.reducePow] at h
  omega

/-- A number that is written and read again, whatever stands behind it. -/
theorem dec_uvarint : ∀ (m : Nat) (k acc x : Nat) (r : List UInt8), m = 9 - k → k ≤ 9 → x * 128 ^ k < 18446744073709551616 → (0 < k → 0 < x) →
    dec k acc (Lib.uvarint x ++ r) = (acc + x * 128 ^ k, k + (Lib.uvarint x).length, 0) := by
  intro m
  induction m with
  | zero =>
    intro k acc x r hm hk hx hpos
    obtain rfl : k = 9 := by omega
    have hx1 : x ≤ 1 := by simp only [Nat.reducePow] at hx; omega
    have : x = 1 := by have := hpos (by omega); omega
    subst this
    rw [Lib.uvarint_small (by omega)]
    simp [dec]
  | succ m ih =>
    intro k acc x r hm hk hx hpos
    by_cases h : x < 128
    · rw [Lib.uvarint_small h]
      have e : x.toUInt8.toNat = x := by simp; omega
      simp only [List.cons_append, List.nil_append, dec, e, List.length_singleton]
      rw [if_neg (by omega), if_neg (by omega), if_neg (by have := hpos; omega)]
    · rw [Lib.uvarint_big (by omega)]
      have e : (x % 128 + 128).toUInt8.toNat = x % 128 + 128 := by simp; omega
      simp only [List.cons_append, dec, e, List.length_cons]
      rw [if_neg (by omega), if_pos (by omega)]
      have hd := Nat.div_add_mod x 128
      have hp : 128 ^ (k + 1) = 128 * 128 ^ k := by rw [Nat.pow_succ, Nat.mul_comm]
      have hq : x / 128 * 128 ^ (k + 1) ≤ x * 128 ^ k := by
        rw [hp, ← Nat.mul_assoc]
        exact Nat.mul_le_mul_right _ (by omega)
      rw [ih (k + 1) _ (x / 128) r (by omega) (by omega) (by omega) (by omega)]
      have h1 : (x % 128 + 128) % 128 = x % 128 := by omega
      have h2 : acc + x % 128 * 128 ^ k + x / 128 * 128 ^ (k + 1) = acc + x * 128 ^ k := by
        rw [hp, ← Nat.mul_assoc, Nat.add_assoc, ← Nat.add_mul]
        congr 2
        omega
      rw [h1, h2]
      simp only [Prod.mk.injEq, and_true, true_and]
      omega

/-- Each shorter beginning is too short. -/
theorem dec_short : ∀ (k acc x : Nat) (j : Nat), x * 128 ^ k < 18446744073709551616 → k ≤ 9 → j < (Lib.uvarint x).length → dec k acc ((Lib.uvarint x).take j) = (0, 0, 5) := by
  intro k acc x j
  induction j generalizing k acc x with
  | zero => intro _ _ _; simp [dec]
  | succ j ih =>
    intro hx hk hj
    by_cases h : x < 128
    · rw [Lib.uvarint_small h] at hj; simp at hj
    · rw [Lib.uvarint_big (by omega)] at hj ⊢
      have e : (x % 128 + 128).toUInt8.toNat = x % 128 + 128 := by simp; omega
      have hp : 128 ^ (k + 1) = 128 * 128 ^ k := by rw [Nat.pow_succ, Nat.mul_comm]
      have hq : x / 128 * 128 ^ (k + 1) ≤ x * 128 ^ k := by
        rw [hp, ← Nat.mul_assoc]
        exact Nat.mul_le_mul_right _ (by omega)
      have h9 : k ≠ 9 := by
        rintro rfl
        simp only [Nat.reducePow] at hx
        omega
      simp only [List.take_succ_cons, dec, e]
      rw [if_neg (by omega), if_pos (by omega)]
      exact ih (k + 1) _ (x / 128) (by omega) (by omega) (by simpa using hj)

/-- What is read is written as the bytes that were read. -/
theorem dec_back : ∀ (l : List UInt8) (k acc n c : Nat), k ≤ 9 → acc < 128 ^ k → dec k acc l = (n, c, 0) →
    ∃ x, n = acc + x * 128 ^ k ∧ c = k + (Lib.uvarint x).length ∧ (Lib.uvarint x).length ≤ l.length ∧ l.take (Lib.uvarint x).length = Lib.uvarint x ∧ (0 < k → 0 < x) ∧ n < 18446744073709551616 := by
  intro l
  induction l with
  | nil => intro k acc n c _ _ h; simp [dec] at h
  | cons b r ih =>
    intro k acc n c hk hacc h
    have hb := b.toNat_lt
    rw [dec] at h
    by_cases h9 : k = 9 ∧ 1 < b.toNat
    · rw [if_pos h9] at h; simp at h
    rw [if_neg h9] at h
    by_cases hc : 128 ≤ b.toNat
    · rw [if_pos hc] at h
      have hk9 : k < 9 := by omega
      have hs := (or_shl k acc (b.toNat % 128) hk hacc (by omega) (by omega)).2.2 hk9
      obtain ⟨x, h1, h2, h3, h4, h5, h6⟩ := ih (k + 1) _ n c (by omega) hs h
      have hx := h5 (by omega)
      have hp : 128 ^ (k + 1) = 128 * 128 ^ k := by rw [Nat.pow_succ, Nat.mul_comm]
      refine ⟨b.toNat % 128 + 128 * x, ?_, ?_, ?_, ?_, by omega, h6⟩
      · rw [h1, hp, Nat.add_mul, ← Nat.mul_assoc, Nat.mul_comm x 128]
        omega
      all_goals
        rw [Lib.uvarint_big (by omega)]
        have e1 : (b.toNat % 128 + 128 * x) / 128 = x := by omega
        have e2 : (b.toNat % 128 + 128 * x) % 128 + 128 = b.toNat := by omega
        rw [e1, e2]
        simp only [List.length_cons]
      · omega
      · omega
      · rw [List.take_succ_cons, h4]
        simp
    · rw [if_neg hc] at h
      by_cases h0 : b.toNat = 0 ∧ 0 < k
      · rw [if_pos h0] at h; simp at h
      rw [if_neg h0] at h
      simp only [Prod.mk.injEq, and_true] at h
      have hs := or_shl k acc b.toNat hk hacc (by omega) (by omega)
      refine ⟨b.toNat, h.1.symm, ?_, ?_, ?_, by omega, by rw [← h.1]; exact hs.2.1⟩ <;> rw [Lib.uvarint_small (by omega)]
      · simp; omega
      · simp
      · simp

theorem dec_lt {l : List UInt8} : (dec 0 0 l).1 < 18446744073709551616 := by
  suffices h : ∀ (l : List UInt8) (k acc : Nat), k ≤ 9 → acc < 128 ^ k → (dec k acc l).1 < 18446744073709551616 from h l 0 0 (by omega) (by decide)
  intro l
  induction l with
  | nil => intro k acc _ _; simp [dec]
  | cons b r ih =>
    intro k acc hk hacc
    have hb := b.toNat_lt
    rw [dec]
    by_cases h9 : k = 9 ∧ 1 < b.toNat
    · rw [if_pos h9]; simp
    rw [if_neg h9]
    by_cases hc : 128 ≤ b.toNat
    · rw [if_pos hc]
      exact ih (k + 1) _ (by omega) ((or_shl k acc (b.toNat % 128) hk hacc (by omega) (by omega)).2.2 (by omega))
    · rw [if_neg hc]
      by_cases h0 : b.toNat = 0 ∧ 0 < k
      · rw [if_pos h0]; simp
      rw [if_neg h0]
      exact (or_shl k acc b.toNat hk hacc (by omega) (by omega)).2.1

/-- 'byte(n) | more'. -/
theorem or128 (x : Nat) : bits .or .u8 (IntKind.u8.wrap (x : Int)) 128 = (((x % 128 + 128).toUInt8.toNat : Nat) : Int) := by
  rw [IntKind.wrap_u8, Lib.u8_or128_any _ (by omega) (by omega)]
  simp
  omega
theorem or128' (x : Nat) : bits .or .u8 ((x : Int) % 256) 128 = (((x % 128 + 128).toUInt8.toNat : Nat) : Int) := by
  rw [← IntKind.wrap_u8, or128]
theorem toUInt8_small (x : Nat) (h : x < 128) : (x : Int) = ((x.toUInt8.toNat : Nat) : Int) := by
  simp
  omega
/-- 'byte(n)' of a small number. -/
theorem byte_small (x : Nat) (_h : x < 128) : IntKind.u8.wrap (x : Int) = ((x.toUInt8.toNat : Nat) : Int) := by
  rw [IntKind.wrap_u8]
  simp

end Go.Proofs.YtjninegpaoblfaaGreatDoor.Plain
