/- What packing a list of numbers writes, in plain words; of no program. No conditions. -/
import Derived.Test.YtokmoodiolnfiaaPkPlain
import Derived.Test.YtokmoodiolnfiaaPlain
namespace Go.Proofs.Ytokmoodiolnfiaa.PkSpec
open Go PkPlain Plain

/-- The differences of neighbours, each less 1. -/
def gaps : List UInt64 → List Nat
  | x :: y :: r => (y.toNat - x.toNat - 1) :: gaps (y :: r)
  | _ => []
theorem gaps_length : ∀ l : List UInt64, (gaps l).length = l.length - 1
  | [] => rfl
  | [_] => rfl
  | x :: y :: r => by
    have := gaps_length (y :: r)
    simp only [gaps, List.length_cons] at *
    omega
theorem gaps_at : ∀ (l : List UInt64) (i : Nat) (h : i + 1 < l.length), (gaps l)[i]? = some (l[i + 1].toNat - l[i].toNat - 1)
  | [], i, h => by simp at h
  | [_], i, h => by simp at h
  | x :: y :: r, 0, _ => by simp [gaps]
  | x :: y :: r, i + 1, h => by
    have := gaps_at (y :: r) i (by simpa using h)
    simpa [gaps] using this
theorem gaps_lt : ∀ (l : List UInt64), ∀ g ∈ gaps l, g < 2 ^ 64
  | [], g, h => by simp [gaps] at h
  | [_], g, h => by simp [gaps] at h
  | x :: y :: r, g, h => by
    simp only [gaps, List.mem_cons] at h
    rcases h with rfl | h
    · have := y.toNat_lt; omega
    · exact gaps_lt (y :: r) g h
theorem width_64 (l : List UInt64) : width (gaps l) ≤ 64 := (width_le _ _).2 (gaps_lt l)
theorem gaps_take {l : List UInt64} {i : Nat} (h : i + 1 < l.length) : (gaps l).take (i + 1) = (gaps l).take i ++ [l[i + 1].toNat - l[i].toNat - 1] := by
  have h1 := gaps_at l i h
  have hl : i < (gaps l).length := by rw [gaps_length]; omega
  rw [List.take_succ_eq_append_getElem hl]
  rw [List.getElem?_eq_getElem hl] at h1
  rw [Option.some.inj h1]

/-- Each number is greater than the one ahead of it, among the first k. -/
def RisingTo (l : List UInt64) (k : Nat) : Prop := ∀ (i : Nat) (h : i + 1 < l.length), i + 1 < k → l[i].toNat < l[i + 1].toNat
def Rising (l : List UInt64) : Prop := RisingTo l l.length
theorem rising_step {l : List UInt64} {k : Nat} (hk : k + 1 < l.length) (h : RisingTo l (k + 1)) (h1 : l[k].toNat < l[k + 1].toNat) : RisingTo l (k + 2) := by
  intro i hi hik
  by_cases e : i = k
  · subst e; exact h1
  · exact h i hi (by omega)

def wd (l : List UInt64) : Nat := width (gaps l)
def total (l : List UInt64) : Nat := (l.length - 1) * wd l
def stk (l : List UInt64) : Nat := stack (wd l) (gaps l)
def size8 (l : List UInt64) : Nat := (total l + 7) / 8
theorem wd_lt (l : List UInt64) : ∀ g ∈ gaps l, g < 2 ^ wd l := (width_le _ _).1 (Nat.le_refl _)
theorem stk_lt (l : List UInt64) : stk l < 2 ^ total l := by
  have h := stack_lt (wd_lt l)
  rw [gaps_length, Nat.mul_comm] at h
  exact h

/-- The list's bytes. -/
def head1 (l : List UInt64) : List UInt8 := match l with
  | [] => []
  | x :: _ => Lib.uvarint x.toNat
def tail2 (l : List UInt64) : List UInt8 := if l.length < 2 then [] else (wd l).toUInt8 :: digs (size8 l) (stk l)
def pk (l : List UInt64) : List UInt8 := Lib.uvarint l.length ++ (head1 l ++ tail2 l)
theorem head1_at {l : List UInt64} (h : 0 < l.length) : head1 l = Lib.uvarint l[0].toNat := by
  match l, h with
  | x :: r, _ => rfl
theorem stk_bit {l : List UInt64} {i k : Nat} (hi : i + 1 < l.length) (hk : k < wd l) : stk l / 2 ^ (i * wd l + k) % 2 = (l[i + 1].toNat - l[i].toNat - 1) / 2 ^ k % 2 := by
  have hl : i < (gaps l).length := by rw [gaps_length]; omega
  have h := stack_bit (wd_lt l) hl hk
  have h1 := gaps_at l i hi
  rw [List.getElem?_eq_getElem hl] at h1
  rw [Option.some.inj h1, Nat.mul_comm] at h
  exact h
theorem stk_high {l : List UInt64} {m : Nat} (h : total l ≤ m) : stk l / 2 ^ m % 2 = 0 := by
  have h1 := stk_lt l
  have h2 : 2 ^ total l ≤ 2 ^ m := Nat.pow_le_pow_right (by omega) h
  rw [Nat.div_eq_of_lt (by omega)]
end Go.Proofs.Ytokmoodiolnfiaa.PkSpec
