/- Plain: a list in blocks of 32, block by block; its bytes so; when it rises. No conditions. -/
import Derived.Test.YtfojpbbmicmooaaPkSpecs
import Derived.Test.YtfojpbbmicmooaaPkLay
namespace Go.Proofs.Ytfojpbbmicmooaa.PgPlain
open Go PkPlain PkSpec PsSpec

def ch (l : List UInt64) (k : Nat) : List UInt64 := (l.drop (32 * k)).take 32
def nb (l : List UInt64) : Nat := (l.length + 31) / 32
theorem ch_len (l : List UInt64) (k : Nat) : (ch l k).length = min 32 (l.length - 32 * k) := by simp [ch]
theorem ch_at {l : List UInt64} {k i : Nat} (h : i < (ch l k).length) : (ch l k)[i] = l[32 * k + i]'(by rw [ch_len] at h; omega) := by simp [ch]
theorem ch_drop (l : List UInt64) (k : Nat) : ch (l.drop 32) k = ch l (k + 1) := by
  unfold ch; rw [List.drop_drop, show 32 + 32 * k = 32 * (k + 1) by omega]
theorem blocksF_eq : ∀ (f : Nat) (l : List UInt64), l.length ≤ f → blocksF f l = (List.range (nb l)).map (ch l)
  | 0, l, h => by
    have : l = [] := List.eq_nil_of_length_eq_zero (by omega)
    subst this; rfl
  | f + 1, l, h => by
    rw [blocksF]
    by_cases h0 : l = []
    · subst h0; rfl
    · have hl : 0 < l.length := List.length_pos_iff.2 h0
      rw [if_neg h0, blocksF_eq f _ (by rw [List.length_drop]; omega)]
      have e : nb l = nb (l.drop 32) + 1 := by unfold nb; rw [List.length_drop]; omega
      rw [e, List.range_succ_eq_map, List.map_cons, List.map_map]
      congr 1
      refine List.map_congr_left fun k _ => ?_
      exact ch_drop l k
theorem blocks_eq (l : List UInt64) : blocks l = (List.range (nb l)).map (ch l) := blocksF_eq _ l (Nat.le_refl _)
/-- What of the bytes the first k blocks make. -/
def heads (l : List UInt64) (k : Nat) : List UInt8 := ((List.range k).map (ch l)).flatMap headOf
def packs (l : List UInt64) (k : Nat) : List UInt8 := ((List.range k).map (ch l)).flatMap pk
theorem heads_zero (l : List UInt64) : heads l 0 = [] := rfl
theorem packs_zero (l : List UInt64) : packs l 0 = [] := rfl
theorem heads_succ (l : List UInt64) (k : Nat) : heads l (k + 1) = heads l k ++ headOf (ch l k) := by unfold heads; rw [List.range_succ]; simp
theorem packs_succ (l : List UInt64) (k : Nat) : packs l (k + 1) = packs l k ++ pk (ch l k) := by unfold packs; rw [List.range_succ]; simp
theorem pb_eq (l : List UInt64) : pb l = Lib.uvarint (nb l) ++ heads l (nb l) ++ packs l (nb l) := by
  unfold pb heads packs
  rw [blocks_eq, List.length_map, List.length_range]
theorem head_eq {l : List UInt64} {k : Nat} (h : 32 * k < l.length) : headOf (ch l k) = Lib.uvarint (l[min (32 * k + 32) l.length - 1]'(by omega)).toNat ++ Lib.uvarint (pk (ch l k)).length := by
  unfold headOf
  have hl := ch_len l k
  have e : (ch l k).getLastD 0 = l[min (32 * k + 32) l.length - 1]'(by omega) := by
    rw [List.getLastD_eq_getLast?, List.getLast?_eq_getElem?, List.getElem?_eq_getElem (show (ch l k).length - 1 < (ch l k).length by omega), Option.getD_some, ch_at]
    congr 1
    omega
  rw [e]

theorem pk_small (l : List UInt64) (h : l.length ≤ 32) : (pk l).length ≤ 300 := by
  have h1 : (Lib.uvarint l.length).length ≤ 10 := Lib.uvarint_length64 (by omega)
  have h2 : (head1 l).length ≤ 10 := by
    unfold head1
    cases l with
    | nil => simp
    | cons x r => exact Lib.uvarint_length64 x.toNat_lt
  have h3 : (tail2 l).length ≤ 260 := by
    unfold tail2
    split
    · simp
    · have hw : wd l ≤ 64 := width_64 l
      have ht : total l ≤ 31 * 64 := Nat.mul_le_mul (by omega) hw
      rw [List.length_cons, digs_length]
      unfold size8
      omega
  unfold pk
  rw [List.length_append, List.length_append]
  omega
theorem headOf_le (b : List UInt64) (h : b.length ≤ 32) : (headOf b).length ≤ 20 := by
  unfold headOf
  have h1 := pk_small b h
  have h2 : (Lib.uvarint (b.getLastD 0).toNat).length ≤ 10 := Lib.uvarint_length64 (UInt64.toNat_lt _)
  have h3 : (Lib.uvarint (pk b).length).length ≤ 10 := Lib.uvarint_length64 (by omega)
  rw [List.length_append]
  omega
theorem ch_le (l : List UInt64) (k : Nat) : (ch l k).length ≤ 32 := by rw [ch_len]; omega
theorem heads_le (l : List UInt64) : ∀ k, (heads l k).length ≤ 20 * k
  | 0 => by rw [heads_zero]; simp
  | k + 1 => by
    have h1 := heads_le l k
    have h2 := headOf_le (ch l k) (ch_le l k)
    rw [heads_succ, List.length_append]; omega
theorem packs_le (l : List UInt64) : ∀ k, (packs l k).length ≤ 300 * k
  | 0 => by rw [packs_zero]; simp
  | k + 1 => by
    have h1 := packs_le l k
    have h2 := pk_small (ch l k) (ch_le l k)
    rw [packs_succ, List.length_append]; omega

/-! ### Rising, block by block -/
theorem rise_ok {l : List UInt64} {k : Nat} (h : RisingTo l (32 * k)) (h1 : ∀ (h0 : 0 < k) (hk : 32 * k < l.length), (l[32 * k - 1]'(by omega)).toNat < l[32 * k].toNat) (h2 : Rising (ch l k)) : RisingTo l (32 * (k + 1)) := by
  intro i hi hk
  by_cases e1 : i + 1 < 32 * k
  · exact h i hi e1
  · by_cases e2 : i + 1 = 32 * k
    · have h3 := h1 (by omega) (by omega)
      have a1 : 32 * k - 1 = i := by omega
      have a2 : 32 * k = i + 1 := by omega
      simp only [a2, Nat.add_sub_cancel] at h3
      exact h3
    · have hl := ch_len l k
      have h3 := h2 (i - 32 * k) (by omega) (by omega)
      rw [ch_at, ch_at] at h3
      have a1 : 32 * k + (i - 32 * k) = i := by omega
      have a2 : 32 * k + (i - 32 * k + 1) = i + 1 := by omega
      simp only [a1, a2] at h3
      exact h3
theorem rise_not1 {l : List UInt64} {k : Nat} (h0 : 0 < k) (hk : 32 * k < l.length) (h : ¬ (l[32 * k - 1]'(by omega)).toNat < l[32 * k].toNat) : ¬ Rising l := fun hr => h (by
  have h3 := hr (32 * k - 1) (by omega) (by omega)
  have a1 : 32 * k - 1 + 1 = 32 * k := by omega
  simp only [a1] at h3
  exact h3)
theorem rise_ch {l : List UInt64} (hr : Rising l) (k : Nat) : Rising (ch l k) := fun i hi _ => by
  have hl := ch_len l k
  rw [ch_at, ch_at]
  exact hr (32 * k + i) (by omega) (by omega)
theorem rise_all {l : List UInt64} {k : Nat} (h : RisingTo l (32 * k)) (hk : l.length ≤ 32 * k) : Rising l := fun i hi _ => h i hi (by omega)
theorem rise_join {l : List UInt64} (hr : Rising l) {k : Nat} (h0 : 0 < k) (hk : 32 * k < l.length) : (l[32 * k - 1]'(by omega)).toNat < l[32 * k].toNat := by
  have h3 := hr (32 * k - 1) (by omega) (by omega)
  have a1 : 32 * k - 1 + 1 = 32 * k := by omega
  simp only [a1] at h3
  exact h3
theorem rises_of {l : List UInt64} (hr : Rising l) : Rises l := by
  unfold Rises
  rw [List.pairwise_iff_getElem]
  intro i j hi hj hij
  induction j with
  | zero => omega
  | succ j ih =>
    have h1 := hr j hj (by omega)
    by_cases e : i = j
    · subst e; exact h1
    · exact Nat.lt_trans (ih (by omega) (by omega)) h1
end Go.Proofs.Ytfojpbbmicmooaa.PgPlain
