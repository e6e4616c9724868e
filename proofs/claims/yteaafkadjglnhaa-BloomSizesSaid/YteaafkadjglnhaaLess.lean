/- Texts as values, lists of texts in memory, the order of texts byte by byte, '<' and '==' on them. Of no program but for its string type. No conditions. -/
import Derived.Test.YteaafkadjglnhaaWords
import Derived.Test.YteaafkadjglnhaaRows
import Derived.WalkLawsBesides
namespace Go.Proofs.Yteaafkadjglnhaa.Less
open Go Go.RowKit Words

def S8 (l : List UInt8) : Value := .string ⟨l.toArray⟩
theorem info_str : (Try.prog.info? 9).map (fun i => (i.zero, i.size, i.bytes)) = some (some (.string ByteArray.empty), 1, 16) := by kernel_rfl
theorem oneS (l : List (List UInt8)) : ∀ u ∈ l.map S8, u.oneCell' = true := by
  intro u hu
  obtain ⟨c, _, rfl⟩ := List.mem_map.1 hu
  rfl
theorem cellS {w : World} {b off : Nat} {l : List (List UInt8)} (hc : ∀ j u, (l.map S8)[j]? = some u → w.cell? ⟨b, off + j, none⟩ = some u) {k : Nat} (hk : k < l.length) :
    w.cell? ⟨b, off + k, none⟩ = some (.string ⟨(l[k]).toArray⟩) := hc k _ (by simp [hk, S8])

def less : List UInt8 → List UInt8 → Bool
  | _, [] => false
  | [], _ :: _ => true
  | a :: r, b :: s => a.toNat < b.toNat || (a.toNat == b.toNat && less r s)
theorem less_lt : ∀ a b : List UInt8, less a b = true ↔ a < b
  | a, [] => by cases a <;> simp [less]
  | [], _ :: _ => by simp [less]
  | x :: r, y :: s => by
    rw [List.cons_lt_cons_iff, ← less_lt r s]
    simp only [less, Bool.or_eq_true, decide_eq_true_eq, Bool.and_eq_true, beq_iff_eq]
    rw [UInt8.lt_iff_toNat_lt, ← UInt8.toNat_inj]
theorem less_irrefl (a : List UInt8) : less a a = false := by
  cases h : less a a with
  | false => rfl
  | true => exact absurd ((less_lt a a).1 h) (List.lt_irrefl a)
theorem less_trans {a b c : List UInt8} (h : less a b = true) (h' : less b c = true) : less a c = true :=
  (less_lt a c).2 (List.lt_trans ((less_lt a b).1 h) ((less_lt b c).1 h'))
theorem less_total {a b : List UInt8} (h : a ≠ b) : less a b = true ∨ less b a = true := by
  by_cases h1 : a < b
  · exact .inl ((less_lt a b).2 h1)
  · by_cases h2 : b < a
    · exact .inr ((less_lt b a).2 h2)
    · exact absurd (List.le_antisymm (List.not_lt.1 h2) (List.not_lt.1 h1)) h
theorem less_is : ∀ a b : List UInt8, Op.bytesLess a b = less a b
  | _, [] => by cases ‹List UInt8› <;> rfl
  | [], _ :: _ => rfl
  | a :: x, b :: y => by
    rw [Op.bytesLess, less, less_is x y]
    have h1 : (a == b) = (a.toNat == b.toNat) := by
      rw [Bool.eq_iff_iff, beq_iff_eq, beq_iff_eq]
      exact UInt8.toNat_inj.symm
    rw [h1]
    rfl
theorem run_lss (w : World) (a b : List UInt8) (x : Bool) (h : less a b = x) : (binOp .lss 9 (.string ⟨a.toArray⟩) (.string ⟨b.toArray⟩)).run Try.prog w = .ok (.bool x) w := by
  show Result.ok (Value.bool (Op.bytesLess (ByteArray.toList ⟨a.toArray⟩) (ByteArray.toList ⟨b.toArray⟩))) w = _
  rw [ByteArray.toList_mk, ByteArray.toList_mk, less_is, h]

/-! ### Each text once, in order -/
def ins (x : List UInt8) : List (List UInt8) → List (List UInt8)
  | [] => [x]
  | y :: r => if less y x = true then y :: ins x r else if y = x then y :: r else x :: y :: r
def once (l : List (List UInt8)) : List (List UInt8) := l.foldl (fun o x => ins x o) []
def pos (x : List UInt8) (o : List (List UInt8)) : Nat := (o.takeWhile fun y => less y x).length
theorem pos_le (x : List UInt8) (o : List (List UInt8)) : pos x o ≤ o.length := by
  unfold pos
  induction o with
  | nil => simp
  | cons y r ih =>
    rw [List.takeWhile_cons]
    split
    · simp only [List.length_cons]; omega
    · simp
theorem pos_before (x : List UInt8) : ∀ (o : List (List UInt8)) (k : Nat) (hk : k < o.length), k < pos x o → less o[k] x = true := by
  intro o
  unfold pos
  induction o with
  | nil => intro k hk; simp at hk
  | cons y r ih =>
    intro k hk h
    rw [List.takeWhile_cons] at h
    split at h
    · rename_i hy
      cases k with
      | zero => exact hy
      | succ k => exact ih k (by simpa using hk) (by simpa using h)
    · simp at h
theorem pos_at (x : List UInt8) : ∀ (o : List (List UInt8)) (hk : pos x o < o.length), less (o[pos x o]) x = false := by
  intro o
  induction o with
  | nil => intro hk; simp at hk
  | cons y r ih =>
    intro hk
    by_cases hy : less y x = true
    · have e : pos x (y :: r) = pos x r + 1 := by unfold pos; rw [List.takeWhile_cons, if_pos hy]; rfl
      have h := ih (by rw [e] at hk; simpa using hk)
      simp only [e, List.getElem_cons_succ]
      exact h
    · have e : pos x (y :: r) = 0 := by unfold pos; rw [List.takeWhile_cons, if_neg hy]; rfl
      simp only [e, List.getElem_cons_zero]
      simpa using hy
theorem ins_pos (x : List UInt8) (o : List (List UInt8)) : ins x o = if o[pos x o]? = some x then o else o.take (pos x o) ++ x :: o.drop (pos x o) := by
  induction o with
  | nil => rfl
  | cons y r ih =>
    rw [ins]
    by_cases hy : less y x = true
    · have e : pos x (y :: r) = pos x r + 1 := by unfold pos; rw [List.takeWhile_cons, if_pos hy]; rfl
      rw [if_pos hy, e, List.getElem?_cons_succ, List.take_succ_cons, List.drop_succ_cons, ih]
      split <;> rfl
    · have e : pos x (y :: r) = 0 := by unfold pos; rw [List.takeWhile_cons, if_neg hy]; rfl
      rw [if_neg hy, e, List.getElem?_cons_zero, List.take_zero, List.drop_zero]
      by_cases hyx : y = x
      · rw [if_pos hyx, if_pos (by rw [hyx])]
      · rw [if_neg hyx, if_neg (by simpa using hyx)]
        rfl
theorem ins_length (x : List UInt8) (o : List (List UInt8)) : (ins x o).length ≤ o.length + 1 := by
  induction o with
  | nil => simp [ins]
  | cons y r ih =>
    rw [ins]
    split
    · simp only [List.length_cons]; omega
    · split <;> simp
theorem once_take {l : List (List UInt8)} {k : Nat} (h : k < l.length) : once (l.take (k + 1)) = ins l[k] (once (l.take k)) := by
  unfold once
  rw [List.take_succ_eq_append_getElem h, List.foldl_append]
  rfl
theorem once_length (l : List (List UInt8)) : (once l).length ≤ l.length := by
  have key : ∀ (l o : List (List UInt8)), (l.foldl (fun o x => ins x o) o).length ≤ o.length + l.length := by
    intro l
    induction l with
    | nil => intro o; simp
    | cons x l ih =>
      intro o
      have h1 := ih (ins x o)
      have h2 := ins_length x o
      rw [List.foldl_cons, List.length_cons]
      omega
  have h := key l []
  rw [List.length_nil, Nat.zero_add] at h
  exact h
def Rises (l : List (List UInt8)) : Prop := l.Pairwise fun a b => less a b = true
theorem mem_ins {x z : List UInt8} : ∀ {o : List (List UInt8)}, z ∈ ins x o ↔ z = x ∨ z ∈ o
  | [] => by simp [ins]
  | y :: r => by
    rw [ins]
    split
    · rw [List.mem_cons, mem_ins, List.mem_cons]
      constructor
      · rintro (h | h | h)
        · exact .inr (.inl h)
        · exact .inl h
        · exact .inr (.inr h)
      · rintro (h | h | h)
        · exact .inr (.inl h)
        · exact .inl h
        · exact .inr (.inr h)
    · split
      · rename_i hy
        subst hy
        simp
      · simp
theorem rises_ins {x : List UInt8} : ∀ {o : List (List UInt8)}, Rises o → Rises (ins x o)
  | [], _ => by unfold Rises; simp [ins]
  | y :: r, h => by
    unfold Rises at h ⊢
    rw [List.pairwise_cons] at h
    rw [ins]
    split
    · rename_i hy
      rw [List.pairwise_cons]
      refine ⟨fun z hz => ?_, rises_ins h.2⟩
      rcases mem_ins.1 hz with rfl | hz
      · exact hy
      · exact h.1 z hz
    · split
      · rw [List.pairwise_cons]; exact h
      · rename_i h1 h2
        have hxy : less x y = true := by
          rcases less_total h2 with h3 | h3
          · exact absurd h3 h1
          · exact h3
        rw [List.pairwise_cons, List.pairwise_cons]
        refine ⟨fun z hz => ?_, h⟩
        rcases List.mem_cons.1 hz with rfl | hz
        · exact hxy
        · exact less_trans hxy (h.1 z hz)
theorem rises_once (l : List (List UInt8)) : Rises (once l) := by
  have key : ∀ (l o : List (List UInt8)), Rises o → Rises (l.foldl (fun o x => ins x o) o) := by
    intro l
    induction l with
    | nil => intro o h; exact h
    | cons x l ih => intro o h; exact ih _ (rises_ins h)
  exact key l [] (by unfold Rises; simp)
theorem mem_once {z : List UInt8} {l : List (List UInt8)} : z ∈ once l ↔ z ∈ l := by
  have key : ∀ (l o : List (List UInt8)), z ∈ l.foldl (fun o x => ins x o) o ↔ z ∈ o ∨ z ∈ l := by
    intro l
    induction l with
    | nil => intro o; simp
    | cons x l ih =>
      intro o
      rw [List.foldl_cons, ih, mem_ins, List.mem_cons]
      constructor
      · rintro ((h | h) | h)
        · exact .inr (.inl h)
        · exact .inl h
        · exact .inr (.inr h)
      · rintro (h | h | h)
        · exact .inl (.inr h)
        · exact .inl (.inl h)
        · exact .inr h
  simpa [once] using key l []
/-- A rising list is told by what is in it. -/
theorem rises_ext : ∀ {a b : List (List UInt8)}, Rises a → Rises b → (∀ z, z ∈ a ↔ z ∈ b) → a = b := by
  intro a b ha hb h
  refine List.Perm.eq_of_pairwise (le := fun x y => less x y = true) (fun x y _ _ h1 h2 => ?_) ha hb ?_
  · have := less_trans h1 h2
    rw [less_irrefl] at this
    cases this
  · have nd : ∀ {l : List (List UInt8)}, Rises l → l.Nodup := fun {l} hl => List.Pairwise.imp (fun {x y} hxy e => by subst e; rw [less_irrefl] at hxy; cases hxy) hl
    exact (List.perm_ext_iff_of_nodup (nd ha) (nd hb)).2 h
theorem once_ext {a b : List (List UInt8)} (h : ∀ z, z ∈ a ↔ z ∈ b) : once a = once b :=
  rises_ext (rises_once a) (rises_once b) fun z => by rw [mem_once, mem_once, h]
theorem once_self {a : List (List UInt8)} (h : Rises a) : once a = a := rises_ext (rises_once a) h fun z => mem_once
end Go.Proofs.Yteaafkadjglnhaa.Less
