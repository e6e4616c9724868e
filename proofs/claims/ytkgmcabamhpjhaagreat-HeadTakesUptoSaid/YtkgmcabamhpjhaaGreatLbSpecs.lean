/- Texts as values, lists of texts in memory, the order of texts byte by byte, '<' and '==' on them. Of no program but for its string type. No conditions. · Plain: labels: names, the canonical list, the order, the text of a list and its reading; what the statements of layer 8 reckon with them. No conditions. · Plain: the text of a list of labels and its reading: each the other turned round. No conditions. · Lists of labels in memory: two cells each. Of no program but for its types. No conditions. -/
import Derived.Test.YtkgmcabamhpjhaaGreatBase
import Derived.Test.YtkgmcabamhpjhaaGreatRows
import Derived.WalkLawsBesides
import Derived.Test.YtkgmcabamhpjhaaGreatUtTx
import Derived.Deep.OwnRows
namespace Go.Proofs.YtkgmcabamhpjhaaGreat.Less
open Go Go.RowKit Words

def S8 (l : List UInt8) : Value := .string ⟨l.toArray⟩
theorem info_str : (Tryz.prog.info? 9).map (fun i => (i.zero, i.size, i.bytes)) = some (some (.string ByteArray.empty), 1, 16) := by kernel_rfl
theorem oneS (l : List (List UInt8)) : ∀ u ∈ l.map S8, u.oneCell' = true := by
  intro u hu
  obtain ⟨c, _, rfl⟩ := List.mem_map.1 hu
  rfl
theorem cellS {w : World} {b off : Nat} {l : List (List UInt8)} (hc : ∀ j u, (l.map S8)[j]? = some u → w.cell? ⟨b, off + j, none⟩ = some u) {k : Nat} (hk : k < l.length) :
    w.cell? ⟨b, off + k, none⟩ = some (.string ⟨(l[k]).toArray⟩) := hc k _ (by simp [hk, S8])

def less : List UInt8 → List UInt8 → Bool
  | _, [] => false
  | [], _ :: _ => true
  | a :: r, b :: s => a.toNat < b.toNat || (a.toNat == b.toNat && less r s)
theorem less_lt : ∀ a b : List UInt8, less a b = true ↔ a < b
  | a, [] => by cases a <;> simp [less]
  | [], _ :: _ => by simp [less]
  | x :: r, y :: s => by
    rw [List.cons_lt_cons_iff, ← less_lt r s]
    simp only [less, Bool.or_eq_true, decide_eq_true_eq, Bool.and_eq_true, beq_iff_eq]
    rw [UInt8.lt_iff_toNat_lt, ← UInt8.toNat_inj]
theorem less_irrefl (a : List UInt8) : less a a = false := by
  cases h : less a a with
  | false => rfl
  | true => exact absurd ((less_lt a a).1 h) (List.lt_irrefl a)
theorem less_trans {a b c : List UInt8} (h : less a b = true) (h' : less b c = true) : less a c = true :=
  (less_lt a c).2 (List.lt_trans ((less_lt a b).1 h) ((less_lt b c).1 h'))
theorem less_total {a b : List UInt8} (h : a ≠ b) : less a b = true ∨ less b a = true := by
  by_cases h1 : a < b
  · exact .inl ((less_lt a b).2 h1)
  · by_cases h2 : b < a
    · exact .inr ((less_lt b a).2 h2)
    · exact absurd (List.le_antisymm (List.not_lt.1 h2) (List.not_lt.1 h1)) h
theorem less_is : ∀ a b : List UInt8, Op.bytesLess a b = less a b
  | _, [] => by cases ‹List UInt8› <;> rfl
  | [], _ :: _ => rfl
  | a :: x, b :: y => by
    rw [Op.bytesLess, less, less_is x y]
    have h1 : (a == b) = (a.toNat == b.toNat) := by
      rw [Bool.eq_iff_iff, beq_iff_eq, beq_iff_eq]
      exact UInt8.toNat_inj.symm
    rw [h1]
    rfl
theorem run_lss (w : World) (a b : List UInt8) (x : Bool) (h : less a b = x) : (binOp .lss 9 (.string ⟨a.toArray⟩) (.string ⟨b.toArray⟩)).run Tryz.prog w = .ok (.bool x) w := by
  show Result.ok (Value.bool (Op.bytesLess (ByteArray.toList ⟨a.toArray⟩) (ByteArray.toList ⟨b.toArray⟩))) w = _
  rw [ByteArray.toList_mk, ByteArray.toList_mk, less_is, h]

/-! ### Each text once, in order -/
def ins (x : List UInt8) : List (List UInt8) → List (List UInt8)
  | [] => [x]
  | y :: r => if less y x = true then y :: ins x r else if y = x then y :: r else x :: y :: r
def once (l : List (List UInt8)) : List (List UInt8) := l.foldl (fun o x => ins x o) []
def pos (x : List UInt8) (o : List (List UInt8)) : Nat := (o.takeWhile fun y => less y x).length
theorem pos_le (x : List UInt8) (o : List (List UInt8)) : pos x o ≤ o.length := by
  unfold pos
  induction o with
  | nil => simp
  | cons y r ih =>
    rw [List.takeWhile_cons]
    split
    · simp only [List.length_cons]; omega
    · simp
theorem pos_before (x : List UInt8) : ∀ (o : List (List UInt8)) (k : Nat) (hk : k < o.length), k < pos x o → less o[k] x = true := by
  intro o
  unfold pos
  induction o with
  | nil => intro k hk; simp at hk
  | cons y r ih =>
    intro k hk h
    rw [List.takeWhile_cons] at h
    split at h
    · rename_i hy
      cases k with
      | zero => exact hy
      | succ k => exact ih k (by simpa using hk) (by simpa using h)
    · simp at h
theorem pos_at (x : List UInt8) : ∀ (o : List (List UInt8)) (hk : pos x o < o.length), less (o[pos x o]) x = false := by
  intro o
  induction o with
  | nil => intro hk; simp at hk
  | cons y r ih =>
    intro hk
    by_cases hy : less y x = true
    · have e : pos x (y :: r) = pos x r + 1 := by unfold pos; rw [List.takeWhile_cons, if_pos hy]; rfl
      have h := ih (by rw [e] at hk; simpa using hk)
      simp only [e, List.getElem_cons_succ]
      exact h
    · have e : pos x (y :: r) = 0 := by unfold pos; rw [List.takeWhile_cons, if_neg hy]; rfl
      simp only [e, List.getElem_cons_zero]
      simpa using hy
theorem ins_pos (x : List UInt8) (o : List (List UInt8)) : ins x o = if o[pos x o]? = some x then o else o.take (pos x o) ++ x :: o.drop (pos x o) := by
  induction o with
  | nil => rfl
  | cons y r ih =>
    rw [ins]
    by_cases hy : less y x = true
    · have e : pos x (y :: r) = pos x r + 1 := by unfold pos; rw [List.takeWhile_cons, if_pos hy]; rfl
      rw [if_pos hy, e, List.getElem?_cons_succ, List.take_succ_cons, List.drop_succ_cons, ih]
      split <;> rfl
    · have e : pos x (y :: r) = 0 := by unfold pos; rw [List.takeWhile_cons, if_neg hy]; rfl
      rw [if_neg hy, e, List.getElem?_cons_zero, List.take_zero, List.drop_zero]
      by_cases hyx : y = x
      · rw [if_pos hyx, if_pos (by rw [hyx])]
      · rw [if_neg hyx, if_neg (by simpa using hyx)]
        rfl
theorem ins_length (x : List UInt8) (o : List (List UInt8)) : (ins x o).length ≤ o.length + 1 := by
  induction o with
  | nil => simp [ins]
  | cons y r ih =>
    rw [ins]
    split
    · simp only [List.length_cons]; omega
    · split <;> simp
theorem once_take {l : List (List UInt8)} {k : Nat} (h : k < l.length) : once (l.take (k + 1)) = ins l[k] (once (l.take k)) := by
  unfold once
  rw [List.take_succ_eq_append_getElem h, List.foldl_append]
  rfl
theorem once_length (l : List (List UInt8)) : (once l).length ≤ l.length := by
  have key : ∀ (l o : List (List UInt8)), (l.foldl (fun o x => ins x o) o).length ≤ o.length + l.length := by
    intro l
    induction l with
    | nil => intro o; simp
    | cons x l ih =>
      intro o
      have h1 := ih (ins x o)
      have h2 := ins_length x o
      rw [List.foldl_cons, List.length_cons]
      omega
  have h := key l []
  rw [List.length_nil, Nat.zero_add] at h
  exact h
def Rises (l : List (List UInt8)) : Prop := l.Pairwise fun a b => less a b = true
theorem mem_ins {x z : List UInt8} : ∀ {o : List (List UInt8)}, z ∈ ins x o ↔ z = x ∨ z ∈ o
  | [] => by simp [ins]
  | y :: r => by
    rw [ins]
    split
    · rw [List.mem_cons, mem_ins, List.mem_cons]
      constructor
      · rintro (h | h | h)
        · exact .inr (.inl h)
        · exact .inl h
        · exact .inr (.inr h)
      · rintro (h | h | h)
        · exact .inr (.inl h)
        · exact .inl h
        · exact .inr (.inr h)
    · split
      · rename_i hy
        subst hy
        simp
      · simp
theorem rises_ins {x : List UInt8} : ∀ {o : List (List UInt8)}, Rises o → Rises (ins x o)
  | [], _ => by unfold Rises; simp [ins]
  | y :: r, h => by
    unfold Rises at h ⊢
    rw [List.pairwise_cons] at h
    rw [ins]
    split
    · rename_i hy
      rw [List.pairwise_cons]
      refine ⟨fun z hz => ?_, rises_ins h.2⟩
      rcases mem_ins.1 hz with rfl | hz
      · exact hy
      · exact h.1 z hz
    · split
      · rw [List.pairwise_cons]; exact h
      · rename_i h1 h2
        have hxy : less x y = true := by
          rcases less_total h2 with h3 | h3
          · exact absurd h3 h1
          · exact h3
        rw [List.pairwise_cons, List.pairwise_cons]
        refine ⟨fun z hz => ?_, h⟩
        rcases List.mem_cons.1 hz with rfl | hz
        · exact hxy
        · exact less_trans hxy (h.1 z hz)
theorem rises_once (l : List (List UInt8)) : Rises (once l) := by
  have key : ∀ (l o : List (List UInt8)), Rises o → Rises (l.foldl (fun o x => ins x o) o) := by
    intro l
    induction l with
    | nil => intro o h; exact h
    | cons x l ih => intro o h; exact ih _ (rises_ins h)
  exact key l [] (by unfold Rises; simp)
theorem mem_once {z : List UInt8} {l : List (List UInt8)} : z ∈ once l ↔ z ∈ l := by
  have key : ∀ (l o : List (List UInt8)), z ∈ l.foldl (fun o x => ins x o) o ↔ z ∈ o ∨ z ∈ l := by
    intro l
    induction l with
    | nil => intro o; simp
    | cons x l ih =>
      intro o
      rw [List.foldl_cons, ih, mem_ins, List.mem_cons]
      constructor
      · rintro ((h | h) | h)
        · exact .inr (.inl h)
        · exact .inl h
        · exact .inr (.inr h)
      · rintro (h | h | h)
        · exact .inl (.inr h)
        · exact .inl (.inl h)
        · exact .inr h
  simpa [once] using key l []
/-- A rising list is told by what is in it. -/
theorem rises_ext : ∀ {a b : List (List UInt8)}, Rises a → Rises b → (∀ z, z ∈ a ↔ z ∈ b) → a = b := by
  intro a b ha hb h
  refine List.Perm.eq_of_pairwise (le := fun x y => less x y = true) (fun x y _ _ h1 h2 => ?_) ha hb ?_
  · have := less_trans h1 h2
    rw [less_irrefl] at this
    cases this
  · have nd : ∀ {l : List (List UInt8)}, Rises l → l.Nodup := fun {l} hl => List.Pairwise.imp (fun {x y} hxy e => by subst e; rw [less_irrefl] at hxy; cases hxy) hl
    exact (List.perm_ext_iff_of_nodup (nd ha) (nd hb)).2 h
theorem once_ext {a b : List (List UInt8)} (h : ∀ z, z ∈ a ↔ z ∈ b) : once a = once b :=
  rises_ext (rises_once a) (rises_once b) fun z => by rw [mem_once, mem_once, h]
theorem once_self {a : List (List UInt8)} (h : Rises a) : once a = a := rises_ext (rises_once a) h fun _z => mem_once
end Go.Proofs.YtkgmcabamhpjhaaGreat.Less

namespace Go.Proofs.YtkgmcabamhpjhaaGreat.LbSpec
open Go UtSpec Less

abbrev Lab := List UInt8 × List UInt8
def letter (c : UInt8) : Bool := (decide (97 ≤ c.toNat) && decide (c.toNat ≤ 122)) || decide (c.toNat = 95)
def digit (c : UInt8) : Bool := decide (48 ≤ c.toNat) && decide (c.toNat ≤ 57)
def nameOk : List UInt8 → Bool
  | [] => false
  | c :: t => letter c && t.all (fun c => letter c || digit c) && decide (t.length ≤ 31)
/-- What is wrong with a label: 0, if nothing is. -/
def lerr (x : Lab) : Nat := if nameOk x.1 = true then if 256 < x.2.length then 4 else if vals x.2 = true then 0 else 8 else 6
def firstErr : List Lab → Nat
  | [] => 0
  | x :: l => if lerr x = 0 then firstErr l else lerr x
def put (x : Lab) : List Lab → List Lab
  | [] => [x]
  | y :: l => if less y.1 x.1 = true then y :: put x l else x :: y :: l
def sort (l : List Lab) : List Lab := l.foldl (fun o x => put x o) []
def dup (l : List Lab) : Bool := decide (¬ (l.map Prod.fst).Nodup)
def canon (l : List Lab) : Nat × List Lab :=
  if 16 < l.length then (3, []) else if firstErr l ≠ 0 then (firstErr l, []) else if dup l = true then (6, []) else (0, sort l)
def find (l : List Lab) (n : List UInt8) : Option (List UInt8) := (l.find? fun x => x.1 == n).map Prod.snd
def ltL (x y : Lab) : Bool := less x.1 y.1 || (x.1 == y.1 && less x.2 y.2)
def cmp : List Lab → List Lab → Int
  | [], [] => 0
  | [], _ :: _ => -1
  | _ :: _, [] => 1
  | x :: a, y :: b => if x = y then cmp a b else if ltL x y = true then -1 else 1

/-! ### The order -/
theorem ltL_irrefl (x : Lab) : ltL x x = false := by unfold ltL; rw [less_irrefl, less_irrefl]; simp
theorem ltL_trans {x y z : Lab} (h : ltL x y = true) (h' : ltL y z = true) : ltL x z = true := by
  unfold ltL at *
  simp only [Bool.or_eq_true, Bool.and_eq_true, beq_iff_eq] at *
  rcases h with h | ⟨e, h⟩
  · rcases h' with h' | ⟨e', h'⟩
    · exact .inl (less_trans h h')
    · exact .inl (e' ▸ h)
  · rcases h' with h' | ⟨e', h'⟩
    · exact .inl (e ▸ h')
    · exact .inr ⟨e.trans e', less_trans h h'⟩
theorem ltL_total {x y : Lab} (h : x ≠ y) : ltL x y = true ∨ ltL y x = true := by
  unfold ltL
  simp only [Bool.or_eq_true, Bool.and_eq_true, beq_iff_eq]
  by_cases e : x.1 = y.1
  · have h2 : x.2 ≠ y.2 := fun e2 => h (Prod.ext e e2)
    rcases less_total h2 with h3 | h3
    · exact .inl (.inr ⟨e, h3⟩)
    · exact .inr (.inr ⟨e.symm, h3⟩)
  · rcases less_total e with h3 | h3
    · exact .inl (.inl h3)
    · exact .inr (.inl h3)
theorem ltL_asym {x y : Lab} (h : ltL x y = true) : ltL y x = false := by
  cases e : ltL y x with
  | false => rfl
  | true => have := ltL_trans h e; rw [ltL_irrefl] at this; cases this
theorem cmp_self : ∀ a : List Lab, cmp a a = 0
  | [] => rfl
  | x :: a => by rw [cmp, if_pos rfl]; exact cmp_self a
theorem cmp_range : ∀ a b : List Lab, cmp a b = -1 ∨ cmp a b = 0 ∨ cmp a b = 1
  | [], [] => by simp [cmp]
  | [], _ :: _ => by simp [cmp]
  | _ :: _, [] => by simp [cmp]
  | x :: a, y :: b => by
    rw [cmp]
    split
    · exact cmp_range a b
    · split <;> simp
theorem cmp_turn : ∀ a b : List Lab, cmp b a = - cmp a b
  | [], [] => rfl
  | [], _ :: _ => rfl
  | _ :: _, [] => rfl
  | x :: a, y :: b => by
    rw [cmp, cmp]
    by_cases e : x = y
    · subst e
      rw [if_pos rfl, if_pos rfl]
      exact cmp_turn a b
    · rw [if_neg e, if_neg (fun h => e h.symm)]
      rcases ltL_total e with h | h
      · rw [if_pos h, if_neg (by rw [ltL_asym h]; decide)]
        decide
      · rw [if_pos h, if_neg (by rw [ltL_asym h]; decide)]
theorem cmp_eq : ∀ {a b : List Lab}, cmp a b = 0 ↔ a = b
  | [], [] => by simp [cmp]
  | [], _ :: _ => by simp [cmp]
  | _ :: _, [] => by simp [cmp]
  | x :: a, y :: b => by
    rw [cmp]
    by_cases e : x = y
    · rw [if_pos e, cmp_eq]
      simp [e]
    · rw [if_neg e]
      constructor
      · intro h
        split at h <;> omega
      · intro h
        exact absurd (List.cons.inj h).1 e
theorem cmp_le : ∀ {a b c : List Lab}, cmp a b ≤ 0 → cmp b c ≤ 0 → cmp a c ≤ 0
  | [], _, [] => by simp [cmp]
  | [], _, _ :: _ => by simp [cmp]
  | _ :: _, [], _ => fun h _ => by simp [cmp] at h
  | _ :: _, _ :: _, [] => fun _ h => by simp [cmp] at h
  | x :: a, y :: b, z :: c => fun h h' => by
    rw [cmp] at h h' ⊢
    by_cases e : x = y
    · rw [if_pos e] at h
      subst e
      by_cases e2 : x = z
      · rw [if_pos e2] at h' ⊢
        exact cmp_le h h'
      · rw [if_neg e2] at h' ⊢
        exact h'
    · rw [if_neg e] at h
      have hxy : ltL x y = true := by
        by_cases h9 : ltL x y = true
        · exact h9
        · rw [if_neg h9] at h; omega
      by_cases e2 : y = z
      · subst e2
        rw [if_neg e, if_pos hxy]
        omega
      · rw [if_neg e2] at h'
        have hyz : ltL y z = true := by
          by_cases h9 : ltL y z = true
          · exact h9
          · rw [if_neg h9] at h'; omega
        have hxz := ltL_trans hxy hyz
        have e3 : x ≠ z := fun e3 => by subst e3; rw [ltL_irrefl] at hxz; cases hxz
        rw [if_neg e3, if_pos hxz]
        omega
theorem cmp_ge {a b c : List Lab} (h : 0 ≤ cmp a b) (h' : 0 ≤ cmp b c) : 0 ≤ cmp a c := by
  have h1 := cmp_turn a b
  have h2 := cmp_turn b c
  have h3 := cmp_turn a c
  have := cmp_le (a := c) (b := b) (c := a) (by omega) (by omega)
  omega

/-! ### The canonical list -/
def Asc (l : List Lab) : Prop := l.Pairwise fun a b => less a.1 b.1 = true
theorem mem_put {x z : Lab} : ∀ {l : List Lab}, z ∈ put x l ↔ z = x ∨ z ∈ l
  | [] => by simp [put]
  | y :: l => by
    rw [put]
    split
    · rw [List.mem_cons, mem_put, List.mem_cons]
      constructor
      · rintro (h | h | h)
        · exact .inr (.inl h)
        · exact .inl h
        · exact .inr (.inr h)
      · rintro (h | h | h)
        · exact .inr (.inl h)
        · exact .inl h
        · exact .inr (.inr h)
    · simp
theorem put_perm (x : Lab) : ∀ l : List Lab, (put x l).Perm (x :: l)
  | [] => List.Perm.refl _
  | y :: l => by
    rw [put]
    split
    · exact ((put_perm x l).cons y).trans (List.Perm.swap x y l)
    · exact List.Perm.refl _
theorem put_length (x : Lab) (l : List Lab) : (put x l).length = l.length + 1 := (put_perm x l).length_eq
theorem asc_put {x : Lab} : ∀ {l : List Lab}, Asc l → (∀ y ∈ l, y.1 ≠ x.1) → Asc (put x l)
  | [], _, _ => by unfold Asc; simp [put]
  | y :: l, h, hn => by
    unfold Asc at h ⊢
    rw [List.pairwise_cons] at h
    rw [put]
    split
    · rename_i hy
      rw [List.pairwise_cons]
      refine ⟨fun z hz => ?_, asc_put h.2 fun z hz => hn z (List.mem_cons_of_mem _ hz)⟩
      rcases mem_put.1 hz with rfl | hz
      · exact hy
      · exact h.1 z hz
    · rename_i hy
      have hxy : less x.1 y.1 = true := by
        rcases less_total (hn y (by simp)) with h3 | h3
        · exact absurd h3 hy
        · exact h3
      rw [List.pairwise_cons, List.pairwise_cons]
      refine ⟨fun z hz => ?_, h⟩
      rcases List.mem_cons.1 hz with rfl | hz
      · exact hxy
      · exact less_trans hxy (h.1 z hz)
theorem foldl_perm : ∀ (l o : List Lab), (l.foldl (fun o x => put x o) o).Perm (o ++ l)
  | [], o => by simp
  | x :: l, o => by
    rw [List.foldl_cons]
    refine (foldl_perm l (put x o)).trans ?_
    refine ((put_perm x o).append_right l).trans ?_
    rw [List.cons_append]
    exact List.perm_middle.symm
theorem sort_perm (l : List Lab) : (sort l).Perm l := by
  have h := foldl_perm l []
  rw [List.nil_append] at h
  exact h
theorem sort_length (l : List Lab) : (sort l).length = l.length := (sort_perm l).length_eq
theorem foldl_asc : ∀ (l o : List Lab), Asc o → (l.map Prod.fst).Nodup → (∀ x ∈ l, ∀ y ∈ o, y.1 ≠ x.1) → Asc (l.foldl (fun o x => put x o) o)
  | [], o, h, _, _ => h
  | x :: l, o, h, hd, hn => by
    rw [List.map_cons, List.nodup_cons] at hd
    rw [List.foldl_cons]
    refine foldl_asc l _ (asc_put h (hn x (by simp))) hd.2 fun z hz y hy => ?_
    rcases mem_put.1 hy with rfl | hy
    · exact fun e => hd.1 (e ▸ List.mem_map_of_mem hz)
    · exact hn z (List.mem_cons_of_mem _ hz) y hy
theorem sort_asc {l : List Lab} (h : (l.map Prod.fst).Nodup) : Asc (sort l) := foldl_asc l [] (by unfold Asc; simp) h (by simp)
theorem asc_nodup {l : List Lab} (h : Asc l) : (l.map Prod.fst).Nodup := by
  unfold List.Nodup
  rw [List.pairwise_map]
  exact h.imp fun {a b} h e => by rw [e, less_irrefl] at h; cases h
theorem asc_ext {a b : List Lab} (ha : Asc a) (hb : Asc b) (h : a.Perm b) : a = b := by
  unfold Asc at ha hb
  exact List.Perm.eq_of_pairwise (le := fun x y => less x.1 y.1 = true) (fun x y _ _ h1 h2 => by have := less_trans h1 h2; rw [less_irrefl] at this; cases this) ha hb h
theorem sort_self {l : List Lab} (h : Asc l) : sort l = l := asc_ext (sort_asc (asc_nodup h)) h (sort_perm l)
theorem sort_of_perm {l m : List Lab} (h : l.Perm m) (hd : (l.map Prod.fst).Nodup) : sort l = sort m :=
  asc_ext (sort_asc hd) (sort_asc ((h.map _).nodup_iff.1 hd)) ((sort_perm l).trans (h.trans (sort_perm m).symm))
theorem firstErr_zero {l : List Lab} : firstErr l = 0 ↔ ∀ x ∈ l, lerr x = 0 := by
  induction l with
  | nil => simp [firstErr]
  | cons x l ih =>
    rw [firstErr]
    by_cases h : lerr x = 0
    · rw [if_pos h, ih]
      simp [h]
    · rw [if_neg h]
      simp [h]
/-- A list that may be. -/
structure May (l : List Lab) : Prop where
  few : l.length ≤ 16
  each : ∀ x ∈ l, lerr x = 0
  nodup : (l.map Prod.fst).Nodup
theorem May.perm {l m : List Lab} (h : May l) (hp : l.Perm m) : May m := ⟨hp.length_eq ▸ h.few, fun x hx => h.each x (hp.mem_iff.2 hx), (hp.map _).nodup_iff.1 h.nodup⟩
theorem canon_may {l : List Lab} (h : May l) : canon l = (0, sort l) := by
  unfold canon dup
  rw [if_neg (by have := h.few; omega), if_neg (by simpa using firstErr_zero.2 h.each), if_neg (by simpa using h.nodup)]
theorem canon_not {l : List Lab} (h : ¬ May l) : (canon l).1 ≠ 0 ∧ (canon l).2 = [] := by
  unfold canon
  split
  · simp
  · rename_i h1
    split
    · rename_i h2
      exact ⟨h2, rfl⟩
    · rename_i h2
      split
      · simp
      · rename_i h3
        unfold dup at h3
        simp at h2 h3
        exact absurd ⟨by omega, firstErr_zero.1 h2, h3⟩ h
theorem may_iff {l : List Lab} : May l ↔ (canon l).1 = 0 := by
  constructor
  · intro h; rw [canon_may h]
  · intro h
    by_cases hm : May l
    · exact hm
    · exact absurd h (canon_not hm).1
/-- A canonical list. -/
theorem canon_self {l : List Lab} (h : May l) (ha : Asc l) : canon l = (0, l) := by rw [canon_may h, sort_self ha]
theorem may_sort {l : List Lab} (h : May l) : May (sort l) ∧ Asc (sort l) := ⟨h.perm (sort_perm l).symm, sort_asc h.nodup⟩
theorem canon_turn {l m : List Lab} (hp : l.Perm m) : ((canon l).1 = 0 ↔ (canon m).1 = 0) ∧ (canon l).2 = (canon m).2 := by
  by_cases h : May l
  · have hm := h.perm hp
    rw [canon_may h, canon_may hm]
    exact ⟨by simp, sort_of_perm hp h.nodup⟩
  · have hm : ¬ May m := fun hm => h (hm.perm hp.symm)
    refine ⟨⟨fun e => absurd e (canon_not h).1, fun e => absurd e (canon_not hm).1⟩, ?_⟩
    rw [(canon_not h).2, (canon_not hm).2]

/-! ### What is found -/
theorem find_mem : ∀ {l : List Lab}, (l.map Prod.fst).Nodup → ∀ {x : Lab}, x ∈ l → find l x.1 = some x.2
  | y :: l, hd, x, hx => by
    rw [List.map_cons, List.nodup_cons] at hd
    unfold find
    rw [List.find?_cons]
    by_cases e : y.1 = x.1
    · rw [show (y.1 == x.1) = true by simpa using e]
      rcases List.mem_cons.1 hx with rfl | hx
      · rfl
      · exact absurd (e ▸ List.mem_map_of_mem hx) hd.1
    · rw [show (y.1 == x.1) = false by simpa using e]
      rcases List.mem_cons.1 hx with rfl | hx
      · exact absurd rfl e
      · exact find_mem hd.2 hx
theorem find_none {l : List Lab} {n : List UInt8} : find l n = none ↔ n ∉ l.map Prod.fst := by
  unfold find
  rw [Option.map_eq_none_iff, List.find?_eq_none, List.mem_map]
  constructor
  · rintro h ⟨x, hx, rfl⟩
    exact h x hx (by simp)
  · intro h x hx e
    exact h ⟨x, hx, by simpa using e⟩
/-- A label more, put where it belongs. -/
def posL (n : List UInt8) (l : List Lab) : Nat := (l.takeWhile fun y => less y.1 n).length
theorem put_at (x : Lab) : ∀ l : List Lab, put x l = l.take (posL x.1 l) ++ x :: l.drop (posL x.1 l)
  | [] => rfl
  | y :: l => by
    rw [put]
    unfold posL
    rw [List.takeWhile_cons]
    split
    · rename_i h
      rw [List.length_cons, List.take_succ_cons, List.drop_succ_cons, List.cons_append, put_at x l]
      rfl
    · rename_i h
      rfl
theorem posL_le (n : List UInt8) (l : List Lab) : posL n l ≤ l.length := (List.takeWhile_prefix _).length_le
theorem sort_snoc (l : List Lab) (x : Lab) : sort (l ++ [x]) = put x (sort l) := by unfold sort; rw [List.foldl_append]; rfl
end Go.Proofs.YtkgmcabamhpjhaaGreat.LbSpec

namespace Go.Proofs.YtkgmcabamhpjhaaGreat.LbText
open Go UtSpec Less LbSpec

def esc1 (b : UInt8) : List UInt8 := if b = 34 ∨ b = 92 then [92, b] else if b = 10 then [92, 110] else [b]
def esc (v : List UInt8) : List UInt8 := v.flatMap esc1
def one (x : Lab) : List UInt8 := x.1 ++ (61 :: 34 :: (esc x.2 ++ [34]))
def body : List Lab → List UInt8
  | [] => []
  | x :: l => one x ++ (if l = [] then [] else 44 :: body l)
def write (l : List Lab) : List UInt8 := 123 :: (body l ++ [125])
/-- A name, and what is behind its =". -/
def nm : List UInt8 → Option (List UInt8 × List UInt8)
  | [] => none
  | c :: t => if c = 61 ∧ t.head? = some 34 then some ([], t.tail) else (nm t).map fun p => (c :: p.1, p.2)
/-- A value, and what is behind its closing quote. -/
def un : List UInt8 → Option (List UInt8 × List UInt8)
  | [] => none
  | c :: t => if c = 34 then some ([], t) else if c = 10 then none else if c = 92 then (match t with
      | [] => none
      | d :: t' => if d = 34 ∨ d = 92 then (un t').map fun p => (d :: p.1, p.2) else if d = 110 then (un t').map fun p => (10 :: p.1, p.2) else none)
    else (un t).map fun p => (c :: p.1, p.2)
def oneR (t : List UInt8) : Option (Lab × List UInt8) :=
  match nm t with
  | none => none
  | some (n, r) => if n.contains 32 = true then none else match un r with
    | none => none
    | some (v, r') => some ((n, v), r')
def itemsF : Nat → List UInt8 → Option (List Lab × List UInt8)
  | 0, _ => none
  | f + 1, t => match oneR t with
    | none => none
    | some (x, r) => if r.head? = some 44 then (itemsF f r.tail).map fun p => (x :: p.1, p.2) else some ([x], r)
def parse (s : List UInt8) : Option (List Lab) :=
  if s = [123, 125] then some [] else if s.head? = some 123 then (match itemsF s.length s.tail with
    | none => none
    | some (l, r) => if r = [125] then some l else none) else none
def read (s : List UInt8) : Nat × List Lab :=
  match parse s with
  | none => (6, [])
  | some l => if (canon l).1 ≠ 0 then ((canon l).1, []) else if cmp (canon l).2 l ≠ 0 then (6, []) else (0, (canon l).2)

theorem un_one (c : UInt8) : un [c] = if c = 34 then some ([], []) else none := by
  rw [un.eq_def]
  simp only []
  split
  · rfl
  · split
    · rfl
    · split
      · rfl
      · rfl
theorem un_quote (t : List UInt8) : un (34 :: t) = some ([], t) := by
  cases t with
  | nil => rfl
  | cons d t => rw [un.eq_def]; rfl
theorem un_two (c d : UInt8) (t : List UInt8) : un (c :: d :: t) = if c = 34 then some ([], d :: t) else if c = 10 then none else if c = 92 then (if d = 34 ∨ d = 92 then (un t).map fun p => (d :: p.1, p.2) else if d = 110 then (un t).map fun p => (10 :: p.1, p.2) else none) else (un (d :: t)).map fun p => (c :: p.1, p.2) := by
  rw [un.eq_def]
theorem un_plain {c : UInt8} (h1 : c ≠ 34) (h2 : c ≠ 10) (h3 : c ≠ 92) (t : List UInt8) : un (c :: t) = (un t).map fun p => (c :: p.1, p.2) := by
  cases t with
  | nil => rw [un_one, if_neg h1]; rfl
  | cons d t => rw [un_two, if_neg h1, if_neg h2, if_neg h3]
theorem esc_cons (c : UInt8) (v : List UInt8) : esc (c :: v) = esc1 c ++ esc v := by simp [esc]
theorem un_esc : ∀ (v r : List UInt8), un (esc v ++ 34 :: r) = some (v, r)
  | [], r => by rw [show esc [] = [] from rfl, List.nil_append, un_quote]
  | c :: v, r => by
    have ih := un_esc v r
    rw [esc_cons, List.append_assoc]
    unfold esc1
    split
    · rename_i h
      rw [List.cons_append, List.cons_append, List.nil_append, un_two, if_neg (by decide), if_neg (by decide), if_pos rfl, if_pos h, ih]
      rfl
    · rename_i h
      rw [not_or] at h
      split
      · rename_i h2
        subst h2
        rw [List.cons_append, List.cons_append, List.nil_append, un_two, if_neg (by decide), if_neg (by decide), if_pos rfl, if_neg (by decide), if_pos rfl, ih]
        rfl
      · rename_i h2
        rw [List.cons_append, List.nil_append, un_plain h.1 h2 h.2, ih]
        rfl
theorem un_inv : ∀ (t : List UInt8) {v r : List UInt8}, un t = some (v, r) → t = esc v ++ 34 :: r
  | [], v, r, h => by simp [un] at h
  | [c], v, r, h => by
    rw [un_one] at h
    split at h
    · rename_i hc
      simp at h
      obtain ⟨rfl, rfl⟩ := h
      rw [hc]
      rfl
    · cases h
  | c :: d :: t, v, r, h => by
    rw [un_two] at h
    split at h
    · rename_i hc
      simp at h
      obtain ⟨rfl, rfl⟩ := h
      rw [hc]
      rfl
    · rename_i hc
      split at h
      · cases h
      · rename_i hc2
        split at h
        · rename_i hc3
          split at h
          · rename_i hd
            rw [Option.map_eq_some_iff] at h
            obtain ⟨p, hp, he⟩ := h
            obtain ⟨rfl, rfl⟩ := Prod.mk.inj he
            rw [un_inv t hp, esc_cons, hc3]
            unfold esc1
            rw [if_pos hd]
            rfl
          · split at h
            · rename_i hd2
              rw [Option.map_eq_some_iff] at h
              obtain ⟨p, hp, he⟩ := h
              obtain ⟨rfl, rfl⟩ := Prod.mk.inj he
              rw [un_inv t hp, esc_cons, hc3, hd2]
              rfl
            · cases h
        · rename_i hc3
          rw [Option.map_eq_some_iff] at h
          obtain ⟨p, hp, he⟩ := h
          obtain ⟨rfl, rfl⟩ := Prod.mk.inj he
          rw [un_inv (d :: t) hp, esc_cons]
          unfold esc1
          rw [if_neg (by simp [hc, hc3]), if_neg hc2]
          rfl
theorem nm_inv : ∀ (t : List UInt8) {n r : List UInt8}, nm t = some (n, r) → t = n ++ 61 :: 34 :: r
  | [], n, r, h => by simp [nm] at h
  | c :: t, n, r, h => by
    rw [nm] at h
    split at h
    · rename_i hc
      simp at h
      obtain ⟨rfl, rfl⟩ := h
      obtain ⟨h1, h2⟩ := hc
      cases t with
      | nil => simp at h2
      | cons d t =>
        simp at h2
        rw [h1, h2]
        rfl
    · rw [Option.map_eq_some_iff] at h
      obtain ⟨p, hp, he⟩ := h
      obtain ⟨rfl, rfl⟩ := Prod.mk.inj he
      rw [nm_inv t hp]
      rfl
theorem nm_of : ∀ {n : List UInt8}, (∀ c ∈ n, c ≠ 61) → ∀ r, nm (n ++ 61 :: 34 :: r) = some (n, r)
  | [], _, r => by simp [nm]
  | c :: n, h, r => by
    rw [List.cons_append, nm, if_neg (fun e => h c (by simp) e.1), nm_of (fun x hx => h x (by simp [hx])) r]
    rfl
theorem one_inv {t r : List UInt8} {x : Lab} (h : oneR t = some (x, r)) : t = one x ++ r := by
  unfold oneR at h
  cases hn : nm t with
  | none => simp [hn] at h
  | some p =>
    obtain ⟨n, r1⟩ := p
    rw [hn] at h
    simp only [] at h
    by_cases h32 : n.contains 32 = true
    · rw [if_pos h32] at h
      cases h
    rw [if_neg h32] at h
    cases hu : un r1 with
    | none => simp [hu] at h
    | some q =>
      obtain ⟨v, r2⟩ := q
      rw [hu] at h
      simp at h
      obtain ⟨rfl, rfl⟩ := h
      rw [nm_inv t hn, un_inv r1 hu]
      simp [one]
theorem one_of {x : Lab} (h : ∀ c ∈ x.1, c ≠ 61 ∧ c ≠ 32) (r : List UInt8) : oneR (one x ++ r) = some (x, r) := by
  have e : one x ++ r = x.1 ++ 61 :: 34 :: (esc x.2 ++ 34 :: r) := by simp [one]
  unfold oneR
  rw [e, nm_of (fun c hc => (h c hc).1)]
  simp only []
  rw [if_neg (by rw [List.contains_iff_mem]; exact fun hm => (h 32 hm).2 rfl), un_esc]
theorem items_inv : ∀ (f : Nat) {t : List UInt8} {l : List Lab} {r : List UInt8}, itemsF f t = some (l, r) → l ≠ [] ∧ t = body l ++ r
  | 0, t, l, r, h => by simp [itemsF] at h
  | f + 1, t, l, r, h => by
    rw [itemsF] at h
    cases ho : oneR t with
    | none => simp [ho] at h
    | some p =>
      obtain ⟨x, r1⟩ := p
      rw [ho] at h
      simp only [] at h
      have h1 := one_inv ho
      split at h
      · rename_i hc
        rw [Option.map_eq_some_iff] at h
        obtain ⟨q, hq, he⟩ := h
        obtain ⟨l2, r2⟩ := q
        obtain ⟨rfl, rfl⟩ := Prod.mk.inj he
        obtain ⟨hl, ht⟩ := items_inv f hq
        refine ⟨by simp, ?_⟩
        rw [h1, body, if_neg hl]
        cases r1 with
        | nil => simp at hc
        | cons c r1 =>
          simp at hc ht
          rw [hc, ht]
          simp
      · simp at h
        obtain ⟨rfl, rfl⟩ := h
        refine ⟨by simp, ?_⟩
        rw [h1]
        simp [body]
theorem one_len (x : Lab) : 3 ≤ (one x).length := by simp [one]; omega
theorem items_of : ∀ (f : Nat) {l : List Lab} {r : List UInt8}, l ≠ [] → (∀ x ∈ l, ∀ c ∈ x.1, c ≠ 61 ∧ c ≠ 32) → r.head? ≠ some 44 → l.length ≤ f → itemsF f (body l ++ r) = some (l, r)
  | 0, l, r, hl, _, _, hf => absurd (List.eq_nil_of_length_eq_zero (by omega)) hl
  | f + 1, [], r, hl, _, _, _ => absurd rfl hl
  | f + 1, x :: l, r, _, hn, hr, hf => by
    rw [itemsF, body, List.append_assoc, one_of (hn x (by simp))]
    simp only []
    by_cases e : l = []
    · subst e
      rw [if_pos rfl, List.nil_append, if_neg hr]
    · rw [if_neg e, List.cons_append, List.head?_cons, if_pos rfl, List.tail_cons, items_of f e (fun y hy => hn y (by simp [hy])) hr (by simp at hf; omega)]
      rfl
theorem body_len : ∀ l : List Lab, l.length ≤ (body l).length
  | [] => Nat.zero_le _
  | x :: l => by
    rw [body, List.length_append, List.length_cons]
    have h1 := one_len x
    have h2 := body_len l
    by_cases e : l = []
    · subst e
      simp
      omega
    · rw [if_neg e, List.length_cons]
      omega
theorem write_len (l : List Lab) : (write l).length = (body l).length + 2 := by unfold write; simp
theorem parse_inv {s : List UInt8} {l : List Lab} (h : parse s = some l) : write l = s := by
  unfold parse at h
  split at h
  · rename_i hs
    simp at h
    subst h
    rw [hs]
    rfl
  · split at h
    · rename_i hc
      cases hi : itemsF s.length s.tail with
      | none => simp [hi] at h
      | some p =>
        obtain ⟨l2, r⟩ := p
        rw [hi] at h
        simp only [] at h
        split at h
        · rename_i hr
          simp at h
          subst h
          obtain ⟨_, ht⟩ := items_inv _ hi
          cases s with
          | nil => simp at hc
          | cons c s =>
            simp at hc ht
            rw [write, hc, ht, hr]
        · cases h
    · cases h
theorem parse_of {l : List Lab} (hn : ∀ x ∈ l, ∀ c ∈ x.1, c ≠ 61 ∧ c ≠ 32) : parse (write l) = some l := by
  unfold parse
  by_cases e : l = []
  · subst e
    rfl
  · have hb := body_len l
    have h0 : 0 < l.length := List.length_pos_iff.2 e
    rw [if_neg, if_pos (by simp [write])]
    · have h1 : itemsF (write l).length (write l).tail = some (l, [125]) := items_of _ (r := [125]) e hn (by decide) (by unfold write; simp; omega)
      rw [h1]
      simp
    · intro h
      have h3 := congrArg List.length h
      rw [write_len] at h3
      have h4 : 3 ≤ (body l).length := by
        cases l with
        | nil => exact absurd rfl e
        | cons x l =>
          rw [body, List.length_append]
          have := one_len x
          omega
      rw [show ([123, 125] : List UInt8).length = 2 from rfl] at h3
      omega
theorem name_no {n : List UInt8} (h : nameOk n = true) : ∀ c ∈ n, c ≠ 61 ∧ c ≠ 32 := by
  cases n with
  | nil => simp
  | cons a t =>
    unfold nameOk at h
    simp only [Bool.and_eq_true, List.all_eq_true] at h
    have key : ∀ c : UInt8, (letter c || digit c) = true → c ≠ 61 ∧ c ≠ 32 := by
      intro c hc
      constructor
      · intro e
        subst e
        revert hc
        decide
      · intro e
        subst e
        revert hc
        decide
    intro c hc
    rcases List.mem_cons.1 hc with rfl | hc
    · exact key c (by rw [h.1.1]; rfl)
    · exact key c (h.1.2 c hc)
theorem lerr_name {x : Lab} (h : lerr x = 0) : nameOk x.1 = true := by
  unfold lerr at h
  split at h
  · assumption
  · cases h
theorem may_names {l : List Lab} (h : May l) : ∀ x ∈ l, ∀ c ∈ x.1, c ≠ 61 ∧ c ≠ 32 := fun x hx => name_no (lerr_name (h.each x hx))
theorem read_back {c : List Lab} (h : May c) (ha : Asc c) : read (write c) = (0, c) := by
  unfold read
  rw [parse_of (may_names h)]
  simp only []
  rw [canon_self h ha, if_neg (by simp), if_neg (by simp [cmp_self])]
theorem read_ok {s : List UInt8} (h : (read s).1 = 0) : write (read s).2 = s ∧ May (read s).2 ∧ Asc (read s).2 := by
  unfold read at h ⊢
  cases hp : parse s with
  | none => rw [hp] at h; cases h
  | some l =>
    rw [hp] at h
    simp only [] at h ⊢
    split at h
    · rename_i h1
      exact absurd h h1
    · rename_i h1
      rw [if_neg h1]
      split at h
      · cases h
      · rename_i h2
        rw [if_neg h2]
        have hm : May l := may_iff.2 (by omega)
        have e : (canon l).2 = l := cmp_eq.1 (by omega)
        have e2 : (canon l).2 = sort l := by rw [canon_may hm]
        simp only []
        have e3 : sort l = l := e2.symm.trans e
        rw [e]
        exact ⟨parse_inv hp, hm, by rw [← e3]; exact (may_sort hm).2⟩
theorem write_inj {c m : List Lab} (hc : May c) (hm : May m) (h : write c = write m) : c = m := by
  have h1 := parse_of (may_names hc)
  have h2 := parse_of (may_names hm)
  rw [h, h2] at h1
  exact (Option.some.inj h1).symm
theorem read_not {s : List UInt8} (h : (read s).1 ≠ 0) : (read s).2 = [] := by
  unfold read at h ⊢
  cases hp : parse s with
  | none => rfl
  | some l =>
    rw [hp] at h
    simp only [] at h ⊢
    split at h
    · rename_i h1
      rw [if_pos h1]
    · rename_i h1
      rw [if_neg h1]
      split at h
      · rename_i h2
        rw [if_pos h2]
      · exact absurd rfl h
end Go.Proofs.YtkgmcabamhpjhaaGreat.LbText

namespace Go.Proofs.YtkgmcabamhpjhaaGreat.LbMem
open Go Go.RowKit Words AppN Less LbSpec LbText

def flat (l : List Lab) : List Value := l.flatMap fun x => [S8 x.1, S8 x.2]
theorem flat_cons (x : Lab) (l : List Lab) : flat (x :: l) = S8 x.1 :: S8 x.2 :: flat l := by simp [flat]
theorem flat_append (l m : List Lab) : flat (l ++ m) = flat l ++ flat m := by simp [flat]
theorem flat_one (x : Lab) : flat [x] = [S8 x.1, S8 x.2] := by simp [flat]
theorem flat_len : ∀ l : List Lab, (flat l).length = l.length * 2
  | [] => rfl
  | x :: l => by rw [flat_cons, List.length_cons, List.length_cons, flat_len l, List.length_cons]; omega
theorem flat_take : ∀ (l : List Lab) (k : Nat), (flat l).take (k * 2) = flat (l.take k)
  | [], k => by simp [flat]
  | x :: l, 0 => by simp [flat]
  | x :: l, k + 1 => by
    rw [show (k + 1) * 2 = k * 2 + 1 + 1 by omega, flat_cons, List.take_succ_cons, List.take_succ_cons, flat_take l k, List.take_succ_cons, flat_cons]
theorem flat_drop : ∀ (l : List Lab) (k : Nat), (flat l).drop (k * 2) = flat (l.drop k)
  | [], k => by simp [flat]
  | x :: l, 0 => by simp
  | x :: l, k + 1 => by
    rw [show (k + 1) * 2 = k * 2 + 1 + 1 by omega, flat_cons, List.drop_succ_cons, List.drop_succ_cons, flat_drop l k, List.drop_succ_cons]
theorem flat_at : ∀ {l : List Lab} {k : Nat} (h : k < l.length), (flat l)[k * 2]? = some (S8 (l[k]).1) ∧ (flat l)[k * 2 + 1]? = some (S8 (l[k]).2)
  | x :: l, 0, _ => by simp [flat]
  | x :: l, k + 1, h => by
    have ih := flat_at (l := l) (k := k) (by simpa using h)
    rw [show (k + 1) * 2 = k * 2 + 1 + 1 by omega, flat_cons]
    simpa using ih
theorem flat_ones (l : List Lab) : ∀ u ∈ flat l, u.oneCell' = true := by
  intro u hu
  obtain ⟨x, _, hx⟩ := List.mem_flatMap.1 hu
  simp at hx
  rcases hx with rfl | rfl <;> rfl
theorem flat_inj : ∀ {l m : List Lab}, flat l = flat m → l = m
  | [], [], _ => rfl
  | [], y :: m, h => by simp [flat] at h
  | x :: l, [], h => by simp [flat] at h
  | x :: l, y :: m, h => by
    rw [flat_cons, flat_cons] at h
    simp only [List.cons.injEq] at h
    obtain ⟨h1, h2, h3⟩ := h
    have key : ∀ {a b : List UInt8}, S8 a = S8 b → a = b := fun {a b} h => by
      unfold S8 at h
      injection h with h
      have := congrArg (fun b : ByteArray => b.data.toList) h
      simpa using this
    rw [flat_inj h3, Prod.ext (key h1) (key h2)]
theorem cellsL {w : World} {b off : Nat} {l : List Lab} (hc : ∀ j u, (flat l)[j]? = some u → w.cell? ⟨b, off + j, none⟩ = some u) {k : Nat} (hk : k < l.length) :
    w.cell? ⟨b, off + k * 2, none⟩ = some (.string ⟨(l[k]).1.toArray⟩) ∧ w.cell? ⟨b, off + k * 2 + 1, none⟩ = some (.string ⟨(l[k]).2.toArray⟩) :=
  ⟨hc _ _ (flat_at hk).1, by rw [Nat.add_assoc]; exact hc _ _ (flat_at hk).2⟩
theorem info_label : (Tryz.prog.info? 70).map (fun i => (i.zero, i.size, i.bytes)) = some (some (.agg #[.string ByteArray.empty, .string ByteArray.empty]), 2, 32) := by kernel_rfl
/-- A slice of labels at A reads as l. -/
def Lb (w : World) (A : Option Addr) (n c : Nat) (l : List Lab) : Prop := n = l.length ∧ n ≤ c ∧ c ≤ maxLen ∧ Rd w w.heap.size A (flat l)
theorem own_lab {w : World} {base n : Nat} {v : Value} {xs : List Value} (h : w.ownsRow base 70 2 v n xs) : ∃ A c, v = .slice A n c ∧ n ≤ c ∧ c ≤ maxLen ∧ Rd w w.heap.size A xs ∧ (n = 0 ∨ ∃ g, A = some ⟨g, 0, none⟩ ∧ base ≤ g) := by
  rcases h.2 with ⟨rfl, rfl⟩ | ⟨g, cap, cur, rfl, hb, hg, h1, h2, h3, h4⟩
  · have hx : xs = [] := List.eq_nil_of_length_eq_zero (by have := h.1; omega)
    subst hx
    exact ⟨none, 0, rfl, by omega, by unfold maxLen; omega, Rd.nil_, .inl rfl⟩
  · refine ⟨_, _, rfl, h1, h2, fun hn => ?_, .inr ⟨g, rfl, hb⟩⟩
    refine ⟨g, 0, rfl, (Array.getElem?_eq_some_iff.1 hg).1, fun j u hu => ?_⟩
    have := h.cells (g := g) rfl j u hu
    rwa [add_off] at this
end Go.Proofs.YtkgmcabamhpjhaaGreat.LbMem

