/- Plain facts: how many bytes a packed list has: of numbers at equal distances, of a list that is moved, of its beginning. Conditions: as named. -/
import Derived.Test.YtokmoodiolnfiaaPkSpec
namespace Go.Proofs.Ytokmoodiolnfiaa.PkSize
open Go PkPlain Plain PkSpec

theorem uv_mono : ∀ {n m : Nat}, n ≤ m → (Lib.uvarint n).length ≤ (Lib.uvarint m).length := by
  intro n
  induction n using Nat.strongRecOn with
  | _ n ih =>
    intro m h
    by_cases hn : n < 128
    · rw [Lib.uvarint_small hn]
      have := Lib.uvarint_pos m
      simpa using this
    · rw [Lib.uvarint_big (by omega), Lib.uvarint_big (x := m) (by omega)]
      simp only [List.length_cons, Nat.add_le_add_iff_right]
      exact ih (n / 128) (by omega) (by omega)
theorem gaps_get {l : List UInt64} {i : Nat} (h : i + 1 < l.length) : (gaps l)[i]'(by rw [gaps_length]; omega) = l[i + 1].toNat - l[i].toNat - 1 := by
  have h1 := gaps_at l i h
  rw [List.getElem?_eq_getElem (by rw [gaps_length]; omega)] at h1
  exact Option.some.inj h1
theorem gaps_ext {l m : List UInt64} (hl : l.length = m.length) (h : ∀ (i : Nat) (h1 : i + 1 < l.length) (h2 : i + 1 < m.length), l[i + 1].toNat - l[i].toNat - 1 = m[i + 1].toNat - m[i].toNat - 1) : gaps l = gaps m := by
  apply List.ext_getElem
  · rw [gaps_length, gaps_length, hl]
  · intro i h1 h2
    rw [gaps_length] at h1 h2
    rw [gaps_get (by omega), gaps_get (by omega), h i (by omega) (by omega)]
theorem tail2_length (l : List UInt64) (h : 2 ≤ l.length) : (tail2 l).length = 1 + size8 l := by
  unfold tail2
  rw [if_neg (by omega), List.length_cons, digs_length]
  omega
theorem pk_length (l : List UInt64) (h : 2 ≤ l.length) : (pk l).length = (Lib.uvarint l.length).length + (Lib.uvarint (l[0]'(by omega)).toNat).length + 1 + size8 l := by
  unfold pk
  rw [head1_at (by omega), List.length_append, List.length_append, tail2_length l h]
  omega
theorem pk_one (x : UInt64) : (pk [x]).length = 1 + (Lib.uvarint x.toNat).length := by
  simp [pk, head1, tail2, Lib.uvarint_small (show 1 < 128 by omega)]
  try omega

/-- k numbers from x on at distances g. -/
def lin (x g k : Nat) : List UInt64 := (List.range k).map fun i => (x + i * g).toUInt64
theorem lin_length (x g k : Nat) : (lin x g k).length = k := by simp [lin]
theorem lin_succ (x g k : Nat) : lin x g (k + 1) = lin x g k ++ [(x + k * g).toUInt64] := by simp [lin, List.range_succ]
theorem lin_at (x g k i : Nat) (h : i < (lin x g k).length) (hb : x + k * g < 18446744073709551616) : ((lin x g k)[i]).toNat = x + i * g := by
  rw [lin_length] at h
  have h1 : i * g ≤ k * g := Nat.mul_le_mul_right g (by omega)
  simp [lin]
  omega
theorem lin_rising (x g k : Nat) (hg : 1 ≤ g) (hb : x + k * g < 18446744073709551616) : Rising (lin x g k) := by
  intro i hi _
  rw [lin_at _ _ _ _ _ hb, lin_at _ _ _ _ _ hb, Nat.succ_mul]
  omega
theorem lin_gaps (x g k : Nat) (hb : x + k * g < 18446744073709551616) : gaps (lin x g k) = List.replicate (k - 1) (g - 1) := by
  apply List.ext_getElem
  · rw [gaps_length, lin_length, List.length_replicate]
  · intro i h1 h2
    rw [gaps_length, lin_length] at h1
    rw [gaps_get (by rw [lin_length]; omega), lin_at _ _ _ _ _ hb, lin_at _ _ _ _ _ hb, Nat.succ_mul, List.getElem_replicate]
    omega
theorem width_replicate (d : Nat) : ∀ n, width (List.replicate (n + 1) d) = need d
  | 0 => by simp [List.replicate, width]
  | n + 1 => by rw [List.replicate_succ, width, width_replicate d n]; simp
theorem lin_pk (x g k : Nat) (h2 : 2 ≤ k) (hk : k < 128) (hb : x + k * g < 18446744073709551616) : (pk (lin x g k)).length = (pk [x.toUInt64]).length + 1 + ((k - 1) * need (g - 1) + 7) / 8 := by
  have hw : wd (lin x g k) = need (g - 1) := by
    unfold wd
    rw [lin_gaps x g k hb, show k - 1 = (k - 2) + 1 by omega, width_replicate]
  have h8 : size8 (lin x g k) = ((k - 1) * need (g - 1) + 7) / 8 := by unfold size8 total; rw [hw, lin_length]
  have e1 : (x.toUInt64).toNat = x := by
    have : 0 ≤ k * g := Nat.zero_le _
    simp
    omega
  rw [pk_length _ (by rw [lin_length]; exact h2), h8, lin_at _ _ _ _ _ hb, pk_one, e1, lin_length, Lib.uvarint_small hk, Nat.zero_mul, Nat.add_zero]
  simp

/-- The list moved by a number. -/
def moved (l : List UInt64) (d : Nat) : List UInt64 := l.map fun x => (x.toNat + d).toUInt64
theorem moved_length (l : List UInt64) (d : Nat) : (moved l d).length = l.length := by simp [moved]
theorem moved_at {l : List UInt64} {d i : Nat} (h : i < (moved l d).length) (h' : i < l.length) (hb : l[i].toNat + d < 18446744073709551616) : ((moved l d)[i]).toNat = l[i].toNat + d := by
  simp [moved]
  omega
theorem rising_le {l : List UInt64} (hr : Rising l) : ∀ (m i : Nat) (h : i + m < l.length), l[i].toNat ≤ (l[i + m]'h).toNat
  | 0, i, h => by simp
  | m + 1, i, h => by
    have h1 := rising_le hr m i (by omega)
    have h2 := hr (i + m) (by omega) (by omega)
    have e : l[i + (m + 1)] = l[i + m + 1]'(by omega) := rfl
    rw [e]
    omega
theorem rising_last {l : List UInt64} (hr : Rising l) (i : Nat) (h : i < l.length) : l[i].toNat ≤ (l[l.length - 1]'(by omega)).toNat := by
  have := rising_le hr (l.length - 1 - i) i (by omega)
  have e : i + (l.length - 1 - i) = l.length - 1 := by omega
  simpa only [e] using this
theorem moved_rising {l : List UInt64} {d : Nat} (hr : Rising l) (h0 : 0 < l.length) (hb : (l[l.length - 1]'(by omega)).toNat + d < 18446744073709551616) : Rising (moved l d) := by
  intro i hi hk
  have hl := moved_length l d
  have a1 := rising_last hr i (by omega)
  have a2 := rising_last hr (i + 1) (by omega)
  rw [moved_at _ (by omega) (by omega), moved_at _ (by omega) (by omega)]
  have := hr i (by omega) (by omega)
  omega
theorem moved_gaps {l : List UInt64} {d : Nat} (hr : Rising l) (h0 : 0 < l.length) (hb : (l[l.length - 1]'(by omega)).toNat + d < 18446744073709551616) : gaps (moved l d) = gaps l := by
  have hl := moved_length l d
  apply gaps_ext hl
  intro i h1 h2
  have a1 := rising_last hr i (by omega)
  have a2 := rising_last hr (i + 1) (by omega)
  rw [moved_at _ (by omega) (by omega), moved_at _ (by omega) (by omega)]
  omega
theorem moved_pk {l : List UInt64} {d : Nat} (hr : Rising l) (h2 : 2 ≤ l.length) (hb : (l[l.length - 1]'(by omega)).toNat + d < 18446744073709551616) :
    (pk (moved l d)).length + (Lib.uvarint (l[0]'(by omega)).toNat).length = (pk l).length + (Lib.uvarint ((l[0]'(by omega)).toNat + d)).length := by
  have hl := moved_length l d
  have a0 := rising_last hr 0 (by omega)
  have h8 : size8 (moved l d) = size8 l := by unfold size8 total wd; rw [moved_gaps hr (by omega) hb, hl]
  have eu : (Lib.uvarint (moved l d).length).length = (Lib.uvarint l.length).length := by rw [hl]
  have e0 := moved_at (l := l) (d := d) (i := 0) (by omega) (by omega) (by omega)
  rw [pk_length _ (by omega), pk_length _ h2, h8, e0]
  omega

/-- A beginning of the list costs no more. -/
theorem take_gaps (l : List UInt64) (k : Nat) : ∀ g ∈ gaps (l.take k), g ∈ gaps l := by
  intro g hg
  obtain ⟨i, hi, rfl⟩ := List.getElem_of_mem hg
  rw [gaps_length, List.length_take] at hi
  rw [gaps_get (by rw [List.length_take]; omega), List.getElem_take, List.getElem_take, ← gaps_get (l := l) (by omega)]
  exact List.getElem_mem _
theorem take_rising {l : List UInt64} (hr : Rising l) (k : Nat) : Rising (l.take k) := by
  intro i hi hk
  rw [List.length_take] at hi
  rw [List.getElem_take, List.getElem_take]
  exact hr i (by omega) (by omega)
theorem take_pk (l : List UInt64) (k : Nat) : (pk (l.take k)).length ≤ (pk l).length := by
  have hlen : (l.take k).length ≤ l.length := by rw [List.length_take]; omega
  have hw : wd (l.take k) ≤ wd l := (width_le _ _).2 fun g hg => wd_lt l g (take_gaps l k g hg)
  have ht : total (l.take k) ≤ total l := Nat.mul_le_mul (by omega) hw
  have h8 : size8 (l.take k) ≤ size8 l := by unfold size8; omega
  have hu := uv_mono hlen
  by_cases h2 : 2 ≤ (l.take k).length
  · rw [pk_length _ h2, pk_length _ (by omega), List.getElem_take]
    omega
  · by_cases h1 : (l.take k).length = 0
    · have e : l.take k = [] := List.eq_nil_of_length_eq_zero h1
      rw [e] at hu ⊢
      unfold pk
      simp only [List.length_append, head1, tail2]
      simp at hu ⊢
      omega
    · have h0 : 0 < l.length := by omega
      have e1 : (tail2 (l.take k)).length = 0 := by unfold tail2; rw [if_pos (by omega)]; rfl
      unfold pk
      rw [head1_at (by omega), head1_at h0, List.getElem_take]
      simp only [List.length_append, e1]
      omega
end Go.Proofs.Ytokmoodiolnfiaa.PkSize
