/- A rune in so many parentheses; so many runes. Of no program. No conditions. -/
import Derived.Test.YtdmbgjpidlllcaaRxJoins
namespace Go.Proofs.Ytdmbgjpidlllcaa.RxLimP
open RxSpec RxEq RxTree RxSuf RxText RxJoinP

def nest : Nat → List Nat
  | 0 => [97]
  | k + 1 => 40 :: (nest k ++ [41])
theorem atom_a (t : List Nat) : atomS (97 :: t) = some (.set [97, 97], 0, t) := by
  rw [atomS]
  rfl
theorem rep_a (p : Pat) : ∀ n, repS p (List.replicate n 97) = some (p, List.replicate n 97)
  | 0 => rep_nil p
  | n + 1 => by simp [repS, List.replicate_succ, hd_cons]
theorem item_a (n : Nat) : itemS (97 :: List.replicate n 97) = some (.set [97, 97], 0, List.replicate n 97) := by
  rw [itemS, atom_a]
  simp only
  rw [rep_a]
  rfl
theorem row_a : ∀ (n : Nat) (ps : List Pat), rowL ps 0 (List.replicate n 97) = some (mkRow (ps ++ List.replicate n (.set [97, 97])), 0, [])
  | 0, ps => by rw [List.replicate_zero, List.replicate_zero, row_nil, List.append_nil]
  | n + 1, ps => by
    rw [List.replicate_succ, rowL_eq, if_neg (by simp [hd_cons]), item_a]
    simp only
    rw [show max 0 0 = 0 from rfl, row_a n, List.replicate_succ, List.append_assoc]
    rfl
theorem alt_nest : ∀ k, altS (nest k) = some (.set [97, 97], k, [])
  | 0 => alt_of_row (row_a 1 [])
  | k + 1 => alt_one (alt_nest k)
theorem nest_eq : ∀ k, nest k = List.replicate k 40 ++ 97 :: List.replicate k 41
  | 0 => rfl
  | k + 1 => by
    rw [nest, nest_eq k, List.replicate_succ, List.cons_append, List.append_assoc, List.cons_append, ← List.replicate_succ']
theorem nest_low (k : Nat) : ∀ r ∈ nest k, r < 128 := by
  intro r hr
  rw [nest_eq] at hr
  rcases List.mem_append.1 hr with hr | hr
  · rw [(List.mem_replicate.1 hr).2]; decide
  rcases List.mem_cons.1 hr with rfl | hr
  · decide
  · rw [(List.mem_replicate.1 hr).2]; decide
/-- A rune in k parentheses. -/
theorem text_nest {k : Nat} (hk : k < 20) : parseT (List.replicate k 40 ++ 97 :: List.replicate k 41) = if 16 < k then (9, []) else (0, [⟨2, [], 0, 0, [97, 97]⟩]) := by
  have e : (List.replicate k 40 ++ 97 :: List.replicate k 41 : List UInt8) = UtSpec.encs (nest k) := by
    rw [encs_low (nest_low k), nest_eq]
    simp
  rw [e, text_encs (fun r hr => sc_low (nest_low k r hr)), ← e, if_neg (by simp; omega)]
  unfold parse
  rw [alt_nest]
  simp only
  split
  · rfl
  · rw [if_neg (by simp [size])]
    rfl
theorem sizes_rep : ∀ n, sizes (List.replicate n (.set [97, 97])) = n
  | 0 => rfl
  | n + 1 => by rw [List.replicate_succ, sizes, sizes_rep n, show size (.set [97, 97]) = 1 by simp [size]]; omega
theorem emits_rep : ∀ n b, (emits (List.replicate n (.set [97, 97])) b).length = n
  | 0, b => rfl
  | n + 1, b => by rw [List.replicate_succ, emits, List.length_append, emits_rep n]; simp [emit]; omega
theorem mkRow_many {ps : List Pat} (h : 2 ≤ ps.length) : mkRow ps = .seq ps := by
  match ps, h with
  | [], h => simp at h
  | [_], h => simp at h
  | _ :: _ :: _, _ => rfl
/-- As many runes as may be, and one more. -/
theorem text_long : ∃ l, parseT (List.replicate 128 97) = (0, l) ∧ l.length = 129 := by
  have hlow : ∀ r ∈ List.replicate 128 97, r < 128 := fun r hr => by rw [(List.mem_replicate.1 hr).2]; decide
  have e : (List.replicate 128 97 : List UInt8) = UtSpec.encs (List.replicate 128 97) := by
    rw [encs_low hlow, List.map_replicate]
    rfl
  rw [e, text_encs (fun r hr => sc_low (hlow r hr)), ← e, if_neg (by rw [List.length_replicate]; decide)]
  unfold parse
  rw [alt_of_row (row_a 128 []), List.nil_append, mkRow_many (by rw [List.length_replicate]; decide)]
  simp only
  rw [if_neg (by decide), if_neg (by rw [size, sizes_rep]; decide)]
  exact ⟨_, rfl, by rw [emit, List.length_append, emits_rep]; rfl⟩
theorem text_longer (s : List UInt8) (h : 128 < s.length) : parseT s = (4, []) := by
  unfold parseT
  rw [if_pos h]
end Go.Proofs.Ytdmbgjpidlllcaa.RxLimP
