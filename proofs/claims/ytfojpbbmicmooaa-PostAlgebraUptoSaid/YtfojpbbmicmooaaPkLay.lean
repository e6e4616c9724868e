/- Plain facts: a number's bytes when one of them is set; one step of laying a number's bits behind another number's; numbers laid one behind the other. No conditions. -/
import Derived.Test.YtfojpbbmicmooaaPkAgain
import Derived.Laws.Bits64b
import Derived.Laws.BitsAllLaws
namespace Go.Proofs.Ytfojpbbmicmooaa.PkLay
open Go PkPlain PkSpec

theorem digs_zero : ∀ L : Nat, digs L 0 = List.replicate L 0
  | 0 => rfl
  | L + 1 => by
    rw [digs, List.replicate_succ, show (0 : Nat) / 256 = 0 from rfl, digs_zero L]
    rfl
/-- One byte is set, above which all are noughts. -/
theorem digs_set : ∀ (j L lo x y : Nat), lo < 256 ^ j → x < 256 → y < 256 → j < L → (digs L (lo + 256 ^ j * x)).set j y.toUInt8 = digs L (lo + 256 ^ j * y)
  | 0, L + 1, lo, x, y, h, hx, hy, _ => by
    obtain rfl : lo = 0 := by simpa using h
    simp only [Nat.pow_zero, Nat.one_mul, Nat.zero_add, digs, List.set_cons_zero]
    rw [show x / 256 = 0 by omega, show y / 256 = 0 by omega, show y % 256 = y by omega]
  | j + 1, L + 1, lo, x, y, h, hx, hy, hL => by
    have e1 : (lo + 256 ^ (j + 1) * x) % 256 = lo % 256 := by rw [Nat.pow_succ', Nat.mul_assoc]; omega
    have e2 : (lo + 256 ^ (j + 1) * x) / 256 = lo / 256 + 256 ^ j * x := by rw [Nat.pow_succ', Nat.mul_assoc]; omega
    have e3 : (lo + 256 ^ (j + 1) * y) % 256 = lo % 256 := by rw [Nat.pow_succ', Nat.mul_assoc]; omega
    have e4 : (lo + 256 ^ (j + 1) * y) / 256 = lo / 256 + 256 ^ j * y := by rw [Nat.pow_succ', Nat.mul_assoc]; omega
    have h' : lo / 256 < 256 ^ j := by rw [Nat.pow_succ'] at h; omega
    rw [digs, digs, e1, e2, e3, e4, List.set_cons_succ, digs_set j L _ x y h' hx hy (by omega)]
theorem digs_at {L N j : Nat} (h : j < L) : (digs L N)[j]'(by rw [digs_length]; exact h) = (N / 256 ^ j % 256).toUInt8 := by
  induction j generalizing L N with
  | zero =>
    obtain ⟨L, rfl⟩ : ∃ k, L = k + 1 := ⟨L - 1, by omega⟩
    simp [digs]
  | succ j ih =>
    obtain ⟨L, rfl⟩ : ∃ k, L = k + 1 := ⟨L - 1, by omega⟩
    simp only [digs, List.getElem_cons_succ]
    rw [ih (by omega), Nat.pow_succ', Nat.div_div_eq_div_mul]

/-- The byte that takes the bits, and the number behind it. -/
theorem lay_step {N a m j low : Nat} (hj : a / 8 = j) (hlow : a % 8 = low) (hN : N < 2 ^ a) :
    ∃ lo x y, N = lo + 256 ^ j * x ∧ lo < 256 ^ j ∧ x < 2 ^ low ∧ N / 256 ^ j % 256 = x ∧ y = x + 2 ^ low * (m % 2 ^ (8 - low)) ∧ y < 256 ∧ N + 2 ^ a * (m % 2 ^ (8 - low)) = lo + 256 ^ j * y ∧
      N + 2 ^ a * (m % 2 ^ (8 - low)) + m / 2 ^ (8 - low) * 2 ^ (a + (8 - low)) = N + m * 2 ^ a ∧ N + 2 ^ a * (m % 2 ^ (8 - low)) < 2 ^ (a + (8 - low)) := by
  have ea : 2 ^ a = 256 ^ j * 2 ^ low := by
    rw [show (256 : Nat) = 2 ^ 8 from rfl, ← Nat.pow_mul, ← Nat.pow_add]
    congr 1
    omega
  have hx : N / 256 ^ j < 2 ^ low := by
    rw [Nat.div_lt_iff_lt_mul (Nat.pow_pos (by omega)), Nat.mul_comm, ← ea]
    exact hN
  have hl8 : low < 8 := by omega
  have e8 : 2 ^ low * 2 ^ (8 - low) = 256 := by rw [← Nat.pow_add, show low + (8 - low) = 8 by omega]
  have hr : m % 2 ^ (8 - low) < 2 ^ (8 - low) := Nat.mod_lt _ (Nat.two_pow_pos _)
  have hle : 2 ^ low ≤ 128 := (Nat.pow_le_pow_right (by omega) (show low ≤ 7 by omega) : 2 ^ low ≤ 2 ^ 7)
  have hy : N / 256 ^ j + 2 ^ low * (m % 2 ^ (8 - low)) < 256 := by
    have h1 : 2 ^ low * (m % 2 ^ (8 - low) + 1) ≤ 2 ^ low * 2 ^ (8 - low) := Nat.mul_le_mul_left _ hr
    rw [e8, Nat.mul_add] at h1
    omega
  refine ⟨N % 256 ^ j, N / 256 ^ j, _, (Nat.mod_add_div N (256 ^ j)).symm, Nat.mod_lt _ (Nat.pow_pos (by omega)), hx, Nat.mod_eq_of_lt (by omega), rfl, hy, ?_, ?_, ?_⟩
  · rw [Nat.mul_add, ← Nat.add_assoc, Nat.mod_add_div, ea, Nat.mul_assoc]
  · have h1 : m * 2 ^ a = (m / 2 ^ (8 - low) * 2 ^ (8 - low) + m % 2 ^ (8 - low)) * 2 ^ a := by rw [Nat.mul_comm (m / _), Nat.div_add_mod]
    rw [h1, Nat.pow_add, Nat.add_mul, Nat.mul_comm (2 ^ a) (m % _), Nat.mul_comm (2 ^ a) (2 ^ (8 - low)), ← Nat.mul_assoc (m / _)]
    omega
  · have h1 : 2 ^ a * (m % 2 ^ (8 - low) + 1) ≤ 2 ^ a * 2 ^ (8 - low) := Nat.mul_le_mul_left _ hr
    rw [Nat.mul_add] at h1
    rw [Nat.pow_add]
    omega
/-- 'x | byte(m << low)'. -/
theorem lay_or {x m low : Nat} (hx : x < 2 ^ low) (hl : low < 8) : x ||| (m * 2 ^ low % 18446744073709551616 % 256) = x + 2 ^ low * (m % 2 ^ (8 - low)) := by
  have e1 : m * 2 ^ low % 18446744073709551616 % 256 = m * 2 ^ low % 256 := Nat.mod_mod_of_dvd _ ⟨72057594037927936, rfl⟩
  have e8 : 256 = 2 ^ low * 2 ^ (8 - low) := by rw [← Nat.pow_add, show low + (8 - low) = 8 by omega]
  have e2 : m * 2 ^ low % 256 = 2 ^ low * (m % 2 ^ (8 - low)) := by
    rw [e8, Nat.mul_comm m, Nat.mul_mod_mul_left]
  rw [e1, e2, Nat.or_comm, Nat.add_comm]
  exact (Nat.two_pow_add_eq_or_of_lt hx _).symm
theorem or_u8 {a b : Nat} (ha : a < 256) (hb : b < 256) : bits .or .u8 (a : Int) (b : Int) = ((a ||| b : Nat) : Int) := u8_or_nat a b ha hb
/-- The gaps' numbers, one more laid. -/
theorem stack_more (l : List UInt64) {i : Nat} (h : i + 1 < l.length) :
    stack (wd l) ((gaps l).take (i + 1)) = stack (wd l) ((gaps l).take i) + (l[i + 1].toNat - l[i].toNat - 1) * 2 ^ (i * wd l) := by
  rw [gaps_take h, PkAgain.stack_snoc, List.length_take, gaps_length, Nat.min_eq_left (by omega), Nat.mul_comm (wd l) i, Nat.mul_comm (2 ^ _)]
theorem stack_take_lt (l : List UInt64) {i : Nat} (h : i + 1 ≤ l.length) : stack (wd l) ((gaps l).take i) < 2 ^ (i * wd l) := by
  have h1 := stack_lt (w := wd l) (gs := (gaps l).take i) (fun g hg => wd_lt l g (List.mem_of_mem_take hg))
  rw [List.length_take, gaps_length, Nat.min_eq_left (by omega), Nat.mul_comm] at h1
  exact h1
theorem stack_take_le (w : Nat) : ∀ (gs : List Nat) (i : Nat), stack w (gs.take i) ≤ stack w gs
  | [], i => by simp
  | g :: r, 0 => by simp [stack]
  | g :: r, i + 1 => by
    rw [List.take_succ_cons, stack, stack]
    have := Nat.mul_le_mul_left (2 ^ w) (stack_take_le w r i)
    omega
theorem stk_lt8 (l : List UInt64) : stk l < 256 ^ size8 l := by
  have h := stk_lt l
  have h2 : 2 ^ total l ≤ 2 ^ (8 * size8 l) := Nat.pow_le_pow_right (by omega) (by unfold size8; omega)
  rw [show (256 : Nat) = 2 ^ 8 from rfl, ← Nat.pow_mul]
  omega
end Go.Proofs.Ytfojpbbmicmooaa.PkLay
