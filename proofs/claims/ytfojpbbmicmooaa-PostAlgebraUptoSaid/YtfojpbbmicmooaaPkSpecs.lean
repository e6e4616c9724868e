/- What packing a list of numbers writes, in plain words; of no program. No conditions. · Plain: postings. The bytes of a rising list in blocks; what a seek finds; what lists have in common and what they are together, as rising lists that are told by their members alone. Of no program. No conditions. -/
import Derived.Test.YtfojpbbmicmooaaPkPlain
import Derived.Test.YtfojpbbmicmooaaPlain
namespace Go.Proofs.Ytfojpbbmicmooaa.PkSpec
open Go PkPlain Plain

/-- The differences of neighbours, each less 1. -/
def gaps : List UInt64 → List Nat
  | x :: y :: r => (y.toNat - x.toNat - 1) :: gaps (y :: r)
  | _ => []
theorem gaps_length : ∀ l : List UInt64, (gaps l).length = l.length - 1
  | [] => rfl
  | [_] => rfl
  | x :: y :: r => by
    have := gaps_length (y :: r)
    simp only [gaps, List.length_cons] at *
    omega
theorem gaps_at : ∀ (l : List UInt64) (i : Nat) (h : i + 1 < l.length), (gaps l)[i]? = some (l[i + 1].toNat - l[i].toNat - 1)
  | [], i, h => by simp at h
  | [_], i, h => by simp at h
  | x :: y :: r, 0, _ => by simp [gaps]
  | x :: y :: r, i + 1, h => by
    have := gaps_at (y :: r) i (by simpa using h)
    simpa [gaps] using this
theorem gaps_lt : ∀ (l : List UInt64), ∀ g ∈ gaps l, g < 2 ^ 64
  | [], g, h => by simp [gaps] at h
  | [_], g, h => by simp [gaps] at h
  | x :: y :: r, g, h => by
    simp only [gaps, List.mem_cons] at h
    rcases h with rfl | h
    · have := y.toNat_lt; omega
    · exact gaps_lt (y :: r) g h
theorem width_64 (l : List UInt64) : width (gaps l) ≤ 64 := (width_le _ _).2 (gaps_lt l)
theorem gaps_take {l : List UInt64} {i : Nat} (h : i + 1 < l.length) : (gaps l).take (i + 1) = (gaps l).take i ++ [l[i + 1].toNat - l[i].toNat - 1] := by
  have h1 := gaps_at l i h
  have hl : i < (gaps l).length := by rw [gaps_length]; omega
  rw [List.take_succ_eq_append_getElem hl]
  rw [List.getElem?_eq_getElem hl] at h1
  rw [Option.some.inj h1]

/-- Each number is greater than the one ahead of it, among the first k. -/
def RisingTo (l : List UInt64) (k : Nat) : Prop := ∀ (i : Nat) (h : i + 1 < l.length), i + 1 < k → l[i].toNat < l[i + 1].toNat
def Rising (l : List UInt64) : Prop := RisingTo l l.length
theorem rising_step {l : List UInt64} {k : Nat} (hk : k + 1 < l.length) (h : RisingTo l (k + 1)) (h1 : l[k].toNat < l[k + 1].toNat) : RisingTo l (k + 2) := by
  intro i hi hik
  by_cases e : i = k
  · subst e; exact h1
  · exact h i hi (by omega)

def wd (l : List UInt64) : Nat := width (gaps l)
def total (l : List UInt64) : Nat := (l.length - 1) * wd l
def stk (l : List UInt64) : Nat := stack (wd l) (gaps l)
def size8 (l : List UInt64) : Nat := (total l + 7) / 8
theorem wd_lt (l : List UInt64) : ∀ g ∈ gaps l, g < 2 ^ wd l := (width_le _ _).1 (Nat.le_refl _)
theorem stk_lt (l : List UInt64) : stk l < 2 ^ total l := by
  have h := stack_lt (wd_lt l)
  rw [gaps_length, Nat.mul_comm] at h
  exact h

/-- The list's bytes. -/
def head1 (l : List UInt64) : List UInt8 := match l with
  | [] => []
  | x :: _ => Lib.uvarint x.toNat
def tail2 (l : List UInt64) : List UInt8 := if l.length < 2 then [] else (wd l).toUInt8 :: digs (size8 l) (stk l)
def pk (l : List UInt64) : List UInt8 := Lib.uvarint l.length ++ (head1 l ++ tail2 l)
theorem head1_at {l : List UInt64} (h : 0 < l.length) : head1 l = Lib.uvarint l[0].toNat := by
  match l, h with
  | x :: r, _ => rfl
theorem stk_bit {l : List UInt64} {i k : Nat} (hi : i + 1 < l.length) (hk : k < wd l) : stk l / 2 ^ (i * wd l + k) % 2 = (l[i + 1].toNat - l[i].toNat - 1) / 2 ^ k % 2 := by
  have hl : i < (gaps l).length := by rw [gaps_length]; omega
  have h := stack_bit (wd_lt l) hl hk
  have h1 := gaps_at l i hi
  rw [List.getElem?_eq_getElem hl] at h1
  rw [Option.some.inj h1, Nat.mul_comm] at h
  exact h
theorem stk_high {l : List UInt64} {m : Nat} (h : total l ≤ m) : stk l / 2 ^ m % 2 = 0 := by
  have h1 := stk_lt l
  have h2 : 2 ^ total l ≤ 2 ^ m := Nat.pow_le_pow_right (by omega) h
  rw [Nat.div_eq_of_lt (by omega)]
end Go.Proofs.Ytfojpbbmicmooaa.PkSpec

namespace Go.Proofs.Ytfojpbbmicmooaa.PsSpec
open Go PkSpec

/-! ### The bytes -/
def blocksF : Nat → List UInt64 → List (List UInt64)
  | 0, _ => []
  | k + 1, l => if l = [] then [] else l.take 32 :: blocksF k (l.drop 32)
def blocks (l : List UInt64) : List (List UInt64) := blocksF l.length l
def headOf (b : List UInt64) : List UInt8 := Lib.uvarint (b.getLastD 0).toNat ++ Lib.uvarint (pk b).length
/-- A list's bytes. -/
def pb (l : List UInt64) : List UInt8 := Lib.uvarint (blocks l).length ++ (blocks l).flatMap headOf ++ (blocks l).flatMap pk
theorem pb_56 : pb [5, 6] = [1, 6, 3, 2, 5, 0] := by decide +kernel

/-! ### Seeks -/
/-- From place a on the first number that is at least n lies at s; or there is none. -/
structure SeekTo (l : List UInt64) (a n s : Nat) : Prop where
  ge : a ≤ s
  le : s ≤ l.length
  less : ∀ (j : Nat) (h : j < l.length), a ≤ j → j < s → l[j].toNat < n
  at_ : ∀ h : s < l.length, n ≤ l[s].toNat
theorem seek_here {l : List UInt64} {a n : Nat} (h : a < l.length) (hn : n ≤ l[a].toNat) : SeekTo l a n a := ⟨Nat.le_refl _, Nat.le_of_lt h, fun j _ h1 h2 => by omega, fun _ => hn⟩
theorem seek_end {l : List UInt64} {n : Nat} : SeekTo l l.length n l.length := ⟨Nat.le_refl _, Nat.le_refl _, fun j h h1 _ => by omega, fun h => by omega⟩

/-! ### Rising lists -/
def Rises (l : List UInt64) : Prop := l.Pairwise fun a b => a.toNat < b.toNat
def ins (x : UInt64) : List UInt64 → List UInt64
  | [] => [x]
  | y :: r => if x.toNat < y.toNat then x :: y :: r else if x.toNat = y.toNat then y :: r else y :: ins x r
def orL (ls : List (List UInt64)) : List UInt64 := ls.flatten.foldr ins []
def andL (ls : List (List UInt64)) : List UInt64 := if ls = [] then [] else (orL ls).filter fun x => ls.all fun l => l.contains x
theorem u_ext {x y : UInt64} (h : x.toNat = y.toNat) : x = y := UInt64.toNat_inj.1 h
theorem mem_ins {x y : UInt64} : ∀ {l : List UInt64}, y ∈ ins x l ↔ y = x ∨ y ∈ l
  | [] => by simp [ins]
  | z :: r => by
    rw [ins]
    split
    · simp
    · split
      · rename_i h
        have := u_ext h
        subst this
        simp
      · rw [List.mem_cons, mem_ins, List.mem_cons]
        exact ⟨fun h => by rcases h with h | h | h <;> simp [h], fun h => by rcases h with h | h | h <;> simp [h]⟩
theorem rises_ins {x : UInt64} : ∀ {l : List UInt64}, Rises l → Rises (ins x l)
  | [], _ => List.pairwise_singleton _ _
  | z :: r, h => by
    unfold Rises at h ⊢
    rw [ins]
    rw [List.pairwise_cons] at h
    split
    · rename_i hx
      rw [List.pairwise_cons]
      refine ⟨fun b hb => ?_, by rw [List.pairwise_cons]; exact h⟩
      rcases List.mem_cons.1 hb with rfl | hb
      · exact hx
      · exact Nat.lt_trans hx (h.1 b hb)
    · split
      · rw [List.pairwise_cons]; exact h
      · rename_i h1 h2
        rw [List.pairwise_cons]
        refine ⟨fun b hb => ?_, rises_ins h.2⟩
        rcases mem_ins.1 hb with rfl | hb
        · omega
        · exact h.1 b hb
theorem rises_fold : ∀ (l : List UInt64), Rises (l.foldr ins [])
  | [] => List.Pairwise.nil
  | x :: r => rises_ins (rises_fold r)
theorem mem_fold {y : UInt64} : ∀ {l : List UInt64}, y ∈ l.foldr ins [] ↔ y ∈ l
  | [] => by simp
  | x :: r => by rw [List.foldr_cons, mem_ins, mem_fold, List.mem_cons]
theorem rises_or (ls : List (List UInt64)) : Rises (orL ls) := rises_fold _
theorem mem_or {ls : List (List UInt64)} {y : UInt64} : y ∈ orL ls ↔ ∃ l ∈ ls, y ∈ l := by
  unfold orL
  rw [mem_fold, List.mem_flatten]
theorem rises_and (ls : List (List UInt64)) : Rises (andL ls) := by
  unfold andL
  split
  · exact List.Pairwise.nil
  · exact (rises_or ls).filter _
theorem mem_and {ls : List (List UInt64)} {y : UInt64} : y ∈ andL ls ↔ ls ≠ [] ∧ ∀ l ∈ ls, y ∈ l := by
  unfold andL
  split
  · rename_i h; simp [h]
  · rename_i h
    rw [List.mem_filter, mem_or]
    simp only [List.all_eq_true, List.contains_eq_mem, decide_eq_true_eq]
    refine ⟨fun hh => ⟨h, hh.2⟩, fun hh => ⟨?_, hh.2⟩⟩
    obtain ⟨l, hl⟩ := List.exists_mem_of_ne_nil _ h
    exact ⟨l, hl, hh.2 l hl⟩
/-- Rising lists are told by their members. -/
theorem rises_ext : ∀ {a b : List UInt64}, Rises a → Rises b → (∀ x, x ∈ a ↔ x ∈ b) → a = b
  | [], [], _, _, _ => rfl
  | [], y :: r, _, _, h => absurd ((h y).2 (by simp)) (by simp)
  | x :: r, [], _, _, h => absurd ((h x).1 (by simp)) (by simp)
  | x :: r, y :: s, ha, hb, h => by
    unfold Rises at ha hb
    rw [List.pairwise_cons] at ha hb
    have hxy : x = y := by
      rcases List.mem_cons.1 ((h x).1 (by simp)) with h1 | h1
      · exact h1
      · rcases List.mem_cons.1 ((h y).2 (by simp)) with h2 | h2
        · exact h2.symm
        · have := hb.1 x h1
          have := ha.1 y h2
          omega
    subst hxy
    congr 1
    refine rises_ext ha.2 hb.2 fun z => ⟨fun hz => ?_, fun hz => ?_⟩
    · rcases List.mem_cons.1 ((h z).1 (List.mem_cons_of_mem _ hz)) with h1 | h1
      · have := ha.1 z hz; rw [h1] at this; omega
      · exact h1
    · rcases List.mem_cons.1 ((h z).2 (List.mem_cons_of_mem _ hz)) with h1 | h1
      · have := hb.1 z hz; rw [h1] at this; omega
      · exact h1
theorem rises_nodup {l : List UInt64} (h : Rises l) : l.Nodup := List.Pairwise.imp (fun {a b} hab e => by rw [e] at hab; omega) h
theorem len_le : ∀ {a b : List UInt64}, a.Nodup → (∀ x ∈ a, x ∈ b) → a.length ≤ b.length
  | [], _, _, _ => Nat.zero_le _
  | x :: r, b, hn, h => by
    rw [List.nodup_cons] at hn
    have hx := h x (by simp)
    have ih := len_le (b := b.erase x) hn.2 fun z hz => (List.mem_erase_of_ne (fun e => hn.1 (by rw [← e]; exact hz))).2 (h z (by simp [hz]))
    rw [List.length_erase_of_mem hx] at ih
    have := List.length_pos_of_mem hx
    rw [List.length_cons]
    omega
theorem len_eq {a b : List UInt64} (ha : a.Nodup) (hb : b.Nodup) (h : ∀ x, x ∈ a ↔ x ∈ b) : a.length = b.length := Nat.le_antisymm (len_le ha fun x hx => (h x).1 hx) (len_le hb fun x hx => (h x).2 hx)

/-! ### What PostAlgebra reckons -/
theorem mem_or1 {a : List UInt64} {x : UInt64} : x ∈ orL [a] ↔ x ∈ a := by rw [mem_or]; simp
theorem mem_or2 {a b : List UInt64} {x : UInt64} : x ∈ orL [a, b] ↔ x ∈ a ∨ x ∈ b := by rw [mem_or]; simp
theorem mem_and2 {a b : List UInt64} {x : UInt64} : x ∈ andL [a, b] ↔ x ∈ a ∧ x ∈ b := by rw [mem_and]; simp
theorem count2 (a b : List UInt64) : (andL [a, b]).length + (orL [a, b]).length = (orL [a]).length + (orL [b]).length := by
  have na := rises_nodup (rises_or [a])
  have nb := rises_nodup (rises_or [b])
  have h1 : (andL [a, b]).length = ((orL [b]).filter fun x => (orL [a]).contains x).length := len_eq (rises_nodup (rises_and _)) (nb.filter _) fun x => by
    rw [List.mem_filter, mem_and2, mem_or1]
    simp only [List.contains_eq_mem, decide_eq_true_eq, mem_or1]
    exact ⟨fun h => ⟨h.2, h.1⟩, fun h => ⟨h.2, h.1⟩⟩
  have h2 : (orL [a, b]).length = (orL [a] ++ (orL [b]).filter fun x => !(orL [a]).contains x).length := len_eq (rises_nodup (rises_or _)) (by
      rw [List.nodup_append]
      refine ⟨na, nb.filter _, fun x hx y hy e => ?_⟩
      rw [List.mem_filter] at hy
      rw [← e] at hy
      simp [hx] at hy) fun x => by
    rw [List.mem_append, List.mem_filter, mem_or2, mem_or1, mem_or1]
    simp only [List.contains_eq_mem, Bool.not_eq_true', decide_eq_false_iff_not, mem_or1]
    by_cases h : x ∈ a <;> simp [h]
  have h3 : ((orL [b]).filter fun x => (orL [a]).contains x).length + ((orL [b]).filter fun x => !(orL [a]).contains x).length = (orL [b]).length := by
    have key : ∀ (p : UInt64 → Bool) (l : List UInt64), (l.filter p).length + (l.filter fun x => !p x).length = l.length := fun p l => by
      induction l with
      | nil => rfl
      | cons z r ih =>
        simp only [List.filter_cons]
        cases p z <;> simp <;> omega
    exact key (fun x => (orL [a]).contains x) _
  rw [List.length_append] at h2
  omega
theorem and_in (a b : List UInt64) : andL [andL [a, b], orL [a, b]] = andL [a, b] := rises_ext (rises_and _) (rises_and _) fun x => by
  rw [mem_and2, mem_and2, mem_or2]
  exact ⟨fun h => h.1, fun h => ⟨h, .inl h.1⟩⟩
theorem or_in (a b : List UInt64) : orL [andL [a, b], orL [a, b]] = orL [a, b] := rises_ext (rises_or _) (rises_or _) fun x => by
  rw [mem_or2, mem_and2, mem_or2]
  exact ⟨fun h => h.elim (fun h => .inl h.1) id, fun h => .inr h⟩
theorem and_turn (a b : List UInt64) : andL [b, a] = andL [a, b] := rises_ext (rises_and _) (rises_and _) fun x => by rw [mem_and2, mem_and2]; exact And.comm
theorem or_turn (a b : List UInt64) : orL [b, a] = orL [a, b] := rises_ext (rises_or _) (rises_or _) fun x => by rw [mem_or2, mem_or2]; exact Or.comm
theorem and_or (a b c : List UInt64) : andL [a, orL [b, c]] = orL [andL [a, b], andL [a, c]] := rises_ext (rises_and _) (rises_or _) fun x => by
  rw [mem_and2, mem_or2, mem_or2, mem_and2, mem_and2]
  exact ⟨fun h => h.2.elim (fun h2 => .inl ⟨h.1, h2⟩) (fun h2 => .inr ⟨h.1, h2⟩), fun h => h.elim (fun h => ⟨h.1, .inl h.2⟩) (fun h => ⟨h.1, .inr h.2⟩)⟩
theorem none_and : andL [] = [] := rfl
theorem none_or : orL [] = [] := rfl
theorem or_len (ls : List (List UInt64)) : (orL ls).length ≤ ls.flatten.length := len_le (rises_nodup (rises_or ls)) fun x hx => by rw [mem_or] at hx; exact List.mem_flatten.2 hx
theorem and_len (ls : List (List UInt64)) : (andL ls).length ≤ ls.flatten.length := by
  unfold andL
  split
  · exact Nat.zero_le _
  · exact Nat.le_trans (List.length_filter_le _ _) (or_len ls)
theorem awake_and : andL [[1, 2, 3], [3, 2]] = [2, 3] := by decide +kernel
theorem awake_or : orL [[3], [1, 3]] = [1, 3] := by decide +kernel
end Go.Proofs.Ytfojpbbmicmooaa.PsSpec

