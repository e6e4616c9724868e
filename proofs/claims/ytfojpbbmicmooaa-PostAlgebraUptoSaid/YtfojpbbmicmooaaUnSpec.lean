/- What unpacking answers at a place of bytes, in plain words; of no program. No conditions. -/
import Derived.Test.YtfojpbbmicmooaaPkSpecs
namespace Go.Proofs.Ytfojpbbmicmooaa.UnSpec
open Go PkPlain Plain PkSpec

/-- The numbers from x on, each greater by its difference and 1; nothing where one would pass 2^64 - 1. -/
def run (x : Nat) : List Nat → Option (List UInt64)
  | [] => some [x.toUInt64]
  | d :: r => if 18446744073709551615 - x ≤ d then none else (run (x + d + 1) r).map (x.toUInt64 :: ·)
/-- The differences: m numbers of w bits each. -/
def cuts (M w : Nat) : Nat → List Nat
  | 0 => []
  | m + 1 => cuts M w m ++ [M / 2 ^ (m * w) % 2 ^ w]
theorem cuts_length (M w : Nat) : ∀ m, (cuts M w m).length = m
  | 0 => rfl
  | m + 1 => by simp [cuts, cuts_length M w m]
theorem cuts_lt (M w : Nat) : ∀ m, ∀ g ∈ cuts M w m, g < 2 ^ w
  | 0, g, h => by simp [cuts] at h
  | m + 1, g, h => by
    simp only [cuts, List.mem_append, List.mem_singleton] at h
    rcases h with h | rfl
    · exact cuts_lt M w m g h
    · exact Nat.mod_lt _ (Nat.two_pow_pos _)
def body (b : List UInt8) (n x p : Nat) : Int × List UInt64 × Int :=
  if b.length ≤ p then (5, [], 0)
  else if 64 < (b.getD p 0).toNat then (6, [], 0)
  else if b.length < p + 1 + ((n - 1) * (b.getD p 0).toNat + 7) / 8 then (5, [], 0)
  else
    match run x (cuts (num ((b.drop (p + 1)).take (((n - 1) * (b.getD p 0).toNat + 7) / 8))) (b.getD p 0).toNat (n - 1)) with
    | none => (6, [], 0)
    | some l =>
      if num ((b.drop (p + 1)).take (((n - 1) * (b.getD p 0).toNat + 7) / 8)) < 2 ^ ((n - 1) * (b.getD p 0).toNat) ∧
          width (cuts (num ((b.drop (p + 1)).take (((n - 1) * (b.getD p 0).toNat + 7) / 8))) (b.getD p 0).toNat (n - 1)) = (b.getD p 0).toNat
      then (0, l, ((p + 1 + ((n - 1) * (b.getD p 0).toNat + 7) / 8 : Nat) : Int)) else (6, [], 0)
def unp (b : List UInt8) (at_ : Int) : Int × List UInt64 × Int :=
  if getE b at_ ≠ 0 then (getE b at_, [], 0)
  else if 65536 < getN b at_ then (3, [], 0)
  else if getN b at_ = 0 then (0, [], getTo b at_)
  else if getE b (getTo b at_) ≠ 0 then (getE b (getTo b at_), [], 0)
  else if getN b at_ = 1 then (0, [(getN b (getTo b at_)).toNat.toUInt64], getTo b (getTo b at_))
  else body b (getN b at_).toNat (getN b (getTo b at_)).toNat (getTo b (getTo b at_)).toNat

/-- So far: the first m differences went through, x is the last number. -/
theorem run_snoc : ∀ (ds : List Nat) (x d : Nat), run x (ds ++ [d]) = (run x ds).bind fun l => if 18446744073709551615 - (x + ds.sum + ds.length) ≤ d then none else some (l ++ [(x + ds.sum + ds.length + d + 1).toUInt64])
  | [], x, d => by
    by_cases h : 18446744073709551615 - x ≤ d <;> simp [run, h]
  | e :: ds, x, d => by
    have ih := run_snoc ds (x + e + 1) d
    have e1 : x + e + 1 + ds.sum + ds.length = x + (e :: ds).sum + (e :: ds).length := by simp; omega
    rw [e1] at ih
    simp only [List.cons_append, run]
    split
    · rfl
    · rw [ih]
      cases run (x + e + 1) ds with
      | none => rfl
      | some l =>
        simp only [Option.bind_some, Option.map_some]
        split <;> rfl
theorem run_none {x : Nat} {ds r : List Nat} (h : run x ds = none) : run x (ds ++ r) = none := by
  induction r generalizing ds with
  | nil => simpa using h
  | cons d r ih =>
    have : run x (ds ++ [d]) = none := by rw [run_snoc, h]; rfl
    have := ih this
    simpa using this
theorem run_length : ∀ {ds : List Nat} {x : Nat} {l : List UInt64}, run x ds = some l → l.length = ds.length + 1
  | [], x, l, h => by simp [run] at h; subst h; rfl
  | d :: ds, x, l, h => by
    simp only [run] at h
    split at h
    · cases h
    · cases hr : run (x + d + 1) ds with
      | none => rw [hr] at h; cases h
      | some l' =>
        rw [hr] at h
        simp at h
        subst h
        simp [run_length hr]
theorem cuts_take (M w : Nat) : ∀ {m k : Nat}, m ≤ k → ∃ r, cuts M w k = cuts M w m ++ r
  | m, 0, h => ⟨[], by obtain rfl : m = 0 := (by omega); simp⟩
  | m, k + 1, h => by
    by_cases e : m = k + 1
    · subst e; exact ⟨[], by simp⟩
    · obtain ⟨r, hr⟩ := cuts_take M w (m := m) (k := k) (by omega)
      exact ⟨r ++ [M / 2 ^ (k * w) % 2 ^ w], by rw [cuts, hr, List.append_assoc]⟩
end Go.Proofs.Ytfojpbbmicmooaa.UnSpec
