/- What a compressed block becomes, in plain lists (no program in this text): 'part' one part, 'lay' all parts up to the end, 'exp' a block. No conditions. -/
import Derived.Test.YtifndcjjlhjgiaaPlain
namespace Go.Proofs.Ytifndcjjlhjgiaa.LaySpec
open Go Plain

/-- n bytes more, one by one, each the one that lies d back. -/
def echoN (d : Nat) : Nat → List UInt8 → List UInt8
  | 0, l => l
  | n + 1, l => echoN d n (l ++ [l.getD (l.length - d) 0])
theorem echoN_length (d : Nat) : ∀ (n : Nat) (l : List UInt8), (echoN d n l).length = l.length + n
  | 0, l => rfl
  | n + 1, l => by rw [echoN, echoN_length d n]; simp; omega

/-- One part: the error, what is laid behind it, how many bytes it takes. -/
def part (size : Nat) (rest laid : List UInt8) : Nat × List UInt8 × Nat :=
  if (dec 0 0 rest).2.2 ≠ 0 then ((dec 0 0 rest).2.2, [], 0)
  else if (dec 0 0 rest).1 / 2 = 0 ∨ ((dec 0 0 rest).1 % 2 = 1 ∧ (dec 0 0 rest).1 / 2 < 4) ∨ size < laid.length + (dec 0 0 rest).1 / 2 then (6, [], 0)
  else if (dec 0 0 rest).1 % 2 = 0 then
    if rest.length - (dec 0 0 rest).2.1 < (dec 0 0 rest).1 / 2 then (5, [], 0)
    else (0, laid ++ (rest.drop (dec 0 0 rest).2.1).take ((dec 0 0 rest).1 / 2), (dec 0 0 rest).2.1 + (dec 0 0 rest).1 / 2)
  else if (dec 0 0 (rest.drop (dec 0 0 rest).2.1)).2.2 ≠ 0 then ((dec 0 0 (rest.drop (dec 0 0 rest).2.1)).2.2, [], 0)
  else if (dec 0 0 (rest.drop (dec 0 0 rest).2.1)).1 = 0 ∨ laid.length < (dec 0 0 (rest.drop (dec 0 0 rest).2.1)).1 then (6, [], 0)
  else (0, echoN (dec 0 0 (rest.drop (dec 0 0 rest).2.1)).1 ((dec 0 0 rest).1 / 2) laid, (dec 0 0 rest).2.1 + (dec 0 0 (rest.drop (dec 0 0 rest).2.1)).2.1)

/-- The parts up to the end: the error and the bytes. -/
def lay (size : Nat) (rest laid : List UInt8) : Nat × List UInt8 :=
  match rest with
  | [] => if laid.length < size then (5, []) else (0, laid)
  | c :: r => if (part size (c :: r) laid).1 ≠ 0 then ((part size (c :: r) laid).1, []) else lay size (r.drop ((part size (c :: r) laid).2.2 - 1)) (part size (c :: r) laid).2.1
termination_by rest.length
decreasing_by simp; omega

/-- A block. -/
def exp (b : List UInt8) (most : Int) : Nat × List UInt8 :=
  if (dec 0 0 b).2.2 ≠ 0 then ((dec 0 0 b).2.2, [])
  else if most < ((dec 0 0 b).1 : Int) ∨ 65536 < (dec 0 0 b).1 then (4, [])
  else lay (dec 0 0 b).1 (b.drop (dec 0 0 b).2.1) []

/-- A number that is read takes a byte at least, and no more than there are. -/
theorem dec_takes {l : List UInt8} {n c : Nat} (h : dec 0 0 l = (n, c, 0)) : 1 ≤ c ∧ c ≤ l.length ∧ n < 18446744073709551616 := by
  obtain ⟨x, h1, h2, h3, h4, h5, h6⟩ := dec_back l 0 0 n c (by omega) (by decide) h
  have := Lib.uvarint_pos x
  omega

section
variable {size : Nat} {rest laid : List UInt8} {p k e : Nat}
theorem part_err (h : dec 0 0 rest = (p, k, e)) (he : e ≠ 0) : part size rest laid = (e, [], 0) := by
  unfold part; rw [h, if_pos he]
theorem part_form (h : dec 0 0 rest = (p, k, 0)) (hf : p / 2 = 0 ∨ (p % 2 = 1 ∧ p / 2 < 4) ∨ size < laid.length + p / 2) : part size rest laid = (6, [], 0) := by
  unfold part; rw [h, if_neg (by simp), if_pos hf]
theorem part_short (h : dec 0 0 rest = (p, k, 0)) (hf : ¬ (p / 2 = 0 ∨ (p % 2 = 1 ∧ p / 2 < 4) ∨ size < laid.length + p / 2)) (h2 : p % 2 = 0) (hs : rest.length - k < p / 2) : part size rest laid = (5, [], 0) := by
  unfold part; rw [h, if_neg (by simp), if_neg hf, if_pos h2, if_pos hs]
theorem part_plain (h : dec 0 0 rest = (p, k, 0)) (hf : ¬ (p / 2 = 0 ∨ (p % 2 = 1 ∧ p / 2 < 4) ∨ size < laid.length + p / 2)) (h2 : p % 2 = 0) (hs : ¬ rest.length - k < p / 2) :
    part size rest laid = (0, laid ++ (rest.drop k).take (p / 2), k + p / 2) := by
  unfold part; rw [h, if_neg (by simp), if_neg hf, if_pos h2, if_neg hs]
variable {d k2 e2 : Nat}
theorem part_err2 (h : dec 0 0 rest = (p, k, 0)) (hf : ¬ (p / 2 = 0 ∨ (p % 2 = 1 ∧ p / 2 < 4) ∨ size < laid.length + p / 2)) (h2 : p % 2 = 1) (hd : dec 0 0 (rest.drop k) = (d, k2, e2)) (he : e2 ≠ 0) :
    part size rest laid = (e2, [], 0) := by
  unfold part; rw [h, if_neg (by simp), if_neg hf, if_neg (by omega), hd, if_pos he]
theorem part_far (h : dec 0 0 rest = (p, k, 0)) (hf : ¬ (p / 2 = 0 ∨ (p % 2 = 1 ∧ p / 2 < 4) ∨ size < laid.length + p / 2)) (h2 : p % 2 = 1) (hd : dec 0 0 (rest.drop k) = (d, k2, 0)) (he : d = 0 ∨ laid.length < d) :
    part size rest laid = (6, [], 0) := by
  unfold part; rw [h, if_neg (by simp), if_neg hf, if_neg (by omega), hd, if_neg (by simp), if_pos he]
theorem part_echo (h : dec 0 0 rest = (p, k, 0)) (hf : ¬ (p / 2 = 0 ∨ (p % 2 = 1 ∧ p / 2 < 4) ∨ size < laid.length + p / 2)) (h2 : p % 2 = 1) (hd : dec 0 0 (rest.drop k) = (d, k2, 0)) (he : ¬ (d = 0 ∨ laid.length < d)) :
    part size rest laid = (0, echoN d (p / 2) laid, k + k2) := by
  unfold part; rw [h, if_neg (by simp), if_neg hf, if_neg (by omega), hd, if_neg (by simp), if_neg he]

/-- A part that is well takes a byte at least, no more than there are, and lays no more than was asked for. -/
theorem part_takes (h : (part size rest laid).1 = 0) : 1 ≤ (part size rest laid).2.2 ∧ (part size rest laid).2.2 ≤ rest.length ∧ (part size rest laid).2.1.length ≤ size ∧ laid.length < (part size rest laid).2.1.length := by
  obtain ⟨p, k, e, hd⟩ : ∃ p k e, dec 0 0 rest = (p, k, e) := ⟨_, _, _, rfl⟩
  by_cases he : e = 0
  · subst he
    have ht := dec_takes hd
    by_cases hf : p / 2 = 0 ∨ (p % 2 = 1 ∧ p / 2 < 4) ∨ size < laid.length + p / 2
    · rw [part_form hd hf] at h; cases h
    · by_cases h2 : p % 2 = 0
      · by_cases hs : rest.length - k < p / 2
        · rw [part_short hd hf h2 hs] at h; cases h
        · rw [part_plain hd hf h2 hs]
          simp only [List.length_append, List.length_take, List.length_drop]
          omega
      · obtain ⟨d, k2, e2, hd2⟩ : ∃ p' k' e', dec 0 0 (rest.drop k) = (p', k', e') := ⟨_, _, _, rfl⟩
        by_cases he2 : e2 = 0
        · subst he2
          have ht2 := dec_takes hd2
          rw [List.length_drop] at ht2
          by_cases hq : d = 0 ∨ laid.length < d
          · rw [part_far hd hf (by omega) hd2 hq] at h; cases h
          · rw [part_echo hd hf (by omega) hd2 hq]
            simp only [echoN_length]
            omega
        · rw [part_err2 hd hf (by omega) hd2 he2] at h; exact absurd h he2
  · rw [part_err hd he] at h; exact absurd h he

theorem lay_nil : lay size [] laid = if laid.length < size then (5, []) else (0, laid) := by rw [lay]
theorem lay_cons (h : rest ≠ []) : lay size rest laid = if (part size rest laid).1 ≠ 0 then ((part size rest laid).1, []) else lay size (rest.drop (part size rest laid).2.2) (part size rest laid).2.1 := by
  cases rest with
  | nil => exact absurd rfl h
  | cons c r =>
    rw [lay]
    by_cases he : (part size (c :: r) laid).1 = 0
    · rw [if_neg (by simp [he]), if_neg (by simp [he])]
      have := (part_takes he).1
      obtain ⟨m, hm⟩ : ∃ m, (part size (c :: r) laid).2.2 = m + 1 := ⟨_, (Nat.succ_pred_eq_of_pos this).symm⟩
      rw [hm, List.drop_succ_cons]
      rfl
    · rw [if_pos he, if_pos he]
theorem lay_err (h : rest ≠ []) {e c : Nat} {l : List UInt8} (hp : part size rest laid = (e, l, c)) (he : e ≠ 0) : lay size rest laid = (e, []) := by
  rw [lay_cons h, hp, if_pos he]
theorem lay_ok (h : rest ≠ []) {c : Nat} {l : List UInt8} (hp : part size rest laid = (0, l, c)) : lay size rest laid = lay size (rest.drop c) l := by
  rw [lay_cons h, hp, if_neg (by simp)]
end
end Go.Proofs.Ytifndcjjlhjgiaa.LaySpec
