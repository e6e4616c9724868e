/- Plain facts on bits (no program in this text): how many bits a number needs; numbers laid one behind the other as one number; a number's bits and bytes. No conditions. -/
import Derived.Lib.Varint
namespace Go.Proofs.Ytepbnclpiojoaaa.PkPlain
open Go

/-- The bits that a number needs. -/
def need (n : Nat) : Nat := if n = 0 then 0 else n.log2 + 1
theorem need_le (n w : Nat) : need n ≤ w ↔ n < 2 ^ w := by
  unfold need
  split
  · subst_vars
    simp [Nat.two_pow_pos]
  · rename_i h
    rw [← Nat.log2_lt h]
    omega
theorem need_zero : need 0 = 0 := rfl
theorem need_half (n : Nat) (h : 0 < n) : need n = need (n / 2) + 1 := by
  apply Nat.le_antisymm
  · rw [need_le, Nat.pow_succ]
    have := (need_le (n / 2) _).1 (Nat.le_refl _)
    omega
  · have h1 := (need_le n _).1 (Nat.le_refl _)
    have hp : 0 < need n := by
      rcases Nat.eq_zero_or_pos (need n) with h0 | h0
      · rw [h0] at h1; simp at h1; omega
      · exact h0
    have h2 : need (n / 2) ≤ need n - 1 := by
      rw [need_le]
      have e : 2 ^ need n = 2 ^ (need n - 1) * 2 := by rw [← Nat.pow_succ]; congr 1; omega
      omega
    omega
theorem need_64 {n : Nat} (h : n < 2 ^ 64) : need n ≤ 64 := (need_le _ _).2 h

/-- The greatest need of all. -/
def width : List Nat → Nat
  | [] => 0
  | g :: r => max (need g) (width r)
theorem width_le (gs : List Nat) (w : Nat) : width gs ≤ w ↔ ∀ g ∈ gs, g < 2 ^ w := by
  induction gs with
  | nil => simp [width]
  | cons g r ih =>
    rw [width, Nat.max_le, ih, need_le]
    simp
theorem width_snoc (gs : List Nat) (g : Nat) : width (gs ++ [g]) = max (width gs) (need g) := by
  induction gs with
  | nil => simp [width]
  | cons x r ih => simp only [List.cons_append, width, ih]; omega

/-- Numbers of w bits each, one behind the other. -/
def stack (w : Nat) : List Nat → Nat
  | [] => 0
  | g :: r => g + 2 ^ w * stack w r
theorem stack_lt {w : Nat} : ∀ {gs : List Nat}, (∀ g ∈ gs, g < 2 ^ w) → stack w gs < 2 ^ (w * gs.length)
  | [], _ => by simp [stack]
  | g :: r, h => by
    have h1 := stack_lt (w := w) (gs := r) (fun x hx => h x (by simp [hx]))
    have h2 := h g (by simp)
    rw [stack, List.length_cons, Nat.mul_succ, Nat.pow_add, Nat.mul_comm (2 ^ (w * r.length))]
    calc g + 2 ^ w * stack w r < 2 ^ w + 2 ^ w * stack w r := by omega
      _ = 2 ^ w * (stack w r + 1) := by rw [Nat.mul_succ, Nat.add_comm]
      _ ≤ 2 ^ w * 2 ^ (w * r.length) := Nat.mul_le_mul_left _ h1
theorem stack_drop {w : Nat} : ∀ (i : Nat) {gs : List Nat}, (∀ g ∈ gs, g < 2 ^ w) → stack w gs / 2 ^ (w * i) = stack w (gs.drop i)
  | 0, gs, _ => by simp
  | i + 1, [], _ => by simp [stack]
  | i + 1, g :: r, h => by
    have h2 := h g (by simp)
    rw [List.drop_succ_cons, ← stack_drop i (fun x hx => h x (by simp [hx])), stack, Nat.mul_succ, Nat.pow_add, Nat.mul_comm (2 ^ (w * i)), ← Nat.div_div_eq_div_mul]
    congr 1
    rw [Nat.add_mul_div_left _ _ (Nat.two_pow_pos w), Nat.div_eq_of_lt h2, Nat.zero_add]
/-- Number i of those that were laid. -/
theorem stack_at {w i : Nat} {gs : List Nat} (h : ∀ g ∈ gs, g < 2 ^ w) (hi : i < gs.length) : stack w gs / 2 ^ (w * i) % 2 ^ w = gs[i] := by
  rw [stack_drop i h, List.drop_eq_getElem_cons hi, stack, Nat.add_mul_mod_self_left]
  exact Nat.mod_eq_of_lt (h _ (List.getElem_mem hi))
/-- Bit k of number i. -/
theorem stack_bit {w i k : Nat} {gs : List Nat} (h : ∀ g ∈ gs, g < 2 ^ w) (hi : i < gs.length) (hk : k < w) : stack w gs / 2 ^ (w * i + k) % 2 = gs[i] / 2 ^ k % 2 := by
  rw [← stack_at h hi, Nat.pow_add, ← Nat.div_div_eq_div_mul]
  generalize stack w gs / 2 ^ (w * i) = n
  have e : 2 ^ w = 2 ^ k * (2 * 2 ^ (w - k - 1)) := by rw [← Nat.pow_succ', ← Nat.pow_add]; congr 1; omega
  rw [e, Nat.mod_mul_right_div_self, Nat.mod_mul_right_mod]

/-- A number's first m bits, each a byte. -/
def bitsOf : Nat → Nat → List UInt8
  | 0, _ => []
  | m + 1, n => (n % 2).toUInt8 :: bitsOf m (n / 2)
theorem bitsOf_length : ∀ (m n : Nat), (bitsOf m n).length = m
  | 0, _ => rfl
  | m + 1, n => by simp [bitsOf, bitsOf_length m]
theorem bitsOf_snoc : ∀ (m n : Nat), bitsOf (m + 1) n = bitsOf m n ++ [(n / 2 ^ m % 2).toUInt8]
  | 0, n => by simp [bitsOf]
  | m + 1, n => by
    have ih := bitsOf_snoc m (n / 2)
    rw [bitsOf, ih]
    simp only [bitsOf, List.cons_append]
    rw [Nat.div_div_eq_div_mul, ← Nat.pow_succ']
theorem bitsOf_at : ∀ (m n j : Nat) (h : j < (bitsOf m n).length), ((bitsOf m n)[j]).toNat = n / 2 ^ j % 2
  | 0, _, _, h => by simp [bitsOf] at h
  | m + 1, n, 0, _ => by simp [bitsOf]; omega
  | m + 1, n, j + 1, h => by
    have ih := bitsOf_at m (n / 2) j (by simpa [bitsOf] using h)
    simp only [bitsOf, List.getElem_cons_succ]
    rw [ih, Nat.div_div_eq_div_mul, ← Nat.pow_succ']

/-- A number's first c bytes. -/
def digs : Nat → Nat → List UInt8
  | 0, _ => []
  | c + 1, n => (n % 256).toUInt8 :: digs c (n / 256)
theorem digs_length : ∀ (c n : Nat), (digs c n).length = c
  | 0, _ => rfl
  | c + 1, n => by simp [digs, digs_length c]
theorem digs_snoc : ∀ (c n : Nat), digs (c + 1) n = digs c n ++ [(n / 256 ^ c % 256).toUInt8]
  | 0, n => by simp [digs]
  | c + 1, n => by
    have ih := digs_snoc c (n / 256)
    rw [digs, ih]
    simp only [digs, List.cons_append]
    rw [Nat.div_div_eq_div_mul, ← Nat.pow_succ']
/-- The number that bytes are, the lowest first. -/
def num : List UInt8 → Nat
  | [] => 0
  | b :: r => b.toNat + 256 * num r
theorem num_lt : ∀ (l : List UInt8), num l < 256 ^ l.length
  | [] => by simp [num]
  | b :: r => by
    have h1 := num_lt r
    have h2 := b.toNat_lt
    rw [num, List.length_cons, Nat.pow_succ]
    omega
theorem num_digs : ∀ (c n : Nat), num (digs c n) = n % 256 ^ c
  | 0, n => by simp [num, digs, Nat.mod_one]
  | c + 1, n => by
    rw [digs, num, num_digs c, Nat.pow_succ', Nat.mod_mul]
    congr 1
    simp
theorem digs_num : ∀ (l : List UInt8), digs l.length (num l) = l
  | [] => rfl
  | b :: r => by
    have h2 := b.toNat_lt
    rw [List.length_cons, digs, num]
    have e1 : (b.toNat + 256 * num r) % 256 = b.toNat := by omega
    have e2 : (b.toNat + 256 * num r) / 256 = num r := by omega
    rw [e1, e2, digs_num r]
    simp
/-- Byte j of the number that bytes are. -/
theorem num_at : ∀ (l : List UInt8) (j : Nat) (h : j < l.length), num l / 256 ^ j % 256 = (l[j]).toNat
  | [], _, h => by simp at h
  | b :: r, 0, _ => by have := b.toNat_lt; simp [num]
  | b :: r, j + 1, h => by
    have h2 := b.toNat_lt
    rw [num, Nat.pow_succ', ← Nat.div_div_eq_div_mul]
    have e2 : (b.toNat + 256 * num r) / 256 = num r := by omega
    rw [e2]
    simpa using num_at r j (by simpa using h)
/-- Bit j of it: bit j % 8 of byte j / 8. -/
theorem num_bit (l : List UInt8) (j : Nat) (h : j / 8 < l.length) : (l[j / 8]).toNat / 2 ^ (j % 8) % 2 = num l / 2 ^ j % 2 := by
  rw [← num_at l (j / 8) h]
  have e1 : 2 ^ j = 256 ^ (j / 8) * 2 ^ (j % 8) := by
    rw [show (256 : Nat) = 2 ^ 8 from rfl, ← Nat.pow_mul, ← Nat.pow_add]
    congr 1
    omega
  rw [e1, ← Nat.div_div_eq_div_mul]
  generalize num l / 256 ^ (j / 8) = n
  have hk : j % 8 < 8 := Nat.mod_lt _ (by omega)
  generalize j % 8 = k at *
  have e : 256 = 2 ^ k * (2 * 2 ^ (8 - k - 1)) := by
    rw [← Nat.pow_succ', ← Nat.pow_add, show (256 : Nat) = 2 ^ 8 from rfl]
    congr 1
    omega
  rw [e, Nat.mod_mul_right_div_self, Nat.mod_mul_right_mod]
end Go.Proofs.Ytepbnclpiojoaaa.PkPlain
