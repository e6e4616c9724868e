/- Plain: labels: names, the canonical list, the order, the text of a list and its reading; what the statements of layer 8 reckon with them. No conditions. -/
import Derived.Test.YtngkhcbnndkdeaaUtSpec
import Derived.Test.YtngkhcbnndkdeaaLess
namespace Go.Proofs.Ytngkhcbnndkdeaa.LbSpec
open Go UtSpec Less

abbrev Lab := List UInt8 × List UInt8
def letter (c : UInt8) : Bool := (decide (97 ≤ c.toNat) && decide (c.toNat ≤ 122)) || decide (c.toNat = 95)
def digit (c : UInt8) : Bool := decide (48 ≤ c.toNat) && decide (c.toNat ≤ 57)
def nameOk : List UInt8 → Bool
  | [] => false
  | c :: t => letter c && t.all (fun c => letter c || digit c) && decide (t.length ≤ 31)
/-- What is wrong with a label: 0, if nothing is. -/
def lerr (x : Lab) : Nat := if nameOk x.1 = true then if 256 < x.2.length then 4 else if vals x.2 = true then 0 else 8 else 6
def firstErr : List Lab → Nat
  | [] => 0
  | x :: l => if lerr x = 0 then firstErr l else lerr x
def put (x : Lab) : List Lab → List Lab
  | [] => [x]
  | y :: l => if less y.1 x.1 = true then y :: put x l else x :: y :: l
def sort (l : List Lab) : List Lab := l.foldl (fun o x => put x o) []
def dup (l : List Lab) : Bool := decide (¬ (l.map Prod.fst).Nodup)
def canon (l : List Lab) : Nat × List Lab :=
  if 16 < l.length then (3, []) else if firstErr l ≠ 0 then (firstErr l, []) else if dup l = true then (6, []) else (0, sort l)
def find (l : List Lab) (n : List UInt8) : Option (List UInt8) := (l.find? fun x => x.1 == n).map Prod.snd
def ltL (x y : Lab) : Bool := less x.1 y.1 || (x.1 == y.1 && less x.2 y.2)
def cmp : List Lab → List Lab → Int
  | [], [] => 0
  | [], _ :: _ => -1
  | _ :: _, [] => 1
  | x :: a, y :: b => if x = y then cmp a b else if ltL x y = true then -1 else 1

/-! ### The order -/
theorem ltL_irrefl (x : Lab) : ltL x x = false := by unfold ltL; rw [less_irrefl, less_irrefl]; simp
theorem ltL_trans {x y z : Lab} (h : ltL x y = true) (h' : ltL y z = true) : ltL x z = true := by
  unfold ltL at *
  simp only [Bool.or_eq_true, Bool.and_eq_true, beq_iff_eq] at *
  rcases h with h | ⟨e, h⟩
  · rcases h' with h' | ⟨e', h'⟩
    · exact .inl (less_trans h h')
    · exact .inl (e' ▸ h)
  · rcases h' with h' | ⟨e', h'⟩
    · exact .inl (e ▸ h')
    · exact .inr ⟨e.trans e', less_trans h h'⟩
theorem ltL_total {x y : Lab} (h : x ≠ y) : ltL x y = true ∨ ltL y x = true := by
  unfold ltL
  simp only [Bool.or_eq_true, Bool.and_eq_true, beq_iff_eq]
  by_cases e : x.1 = y.1
  · have h2 : x.2 ≠ y.2 := fun e2 => h (Prod.ext e e2)
    rcases less_total h2 with h3 | h3
    · exact .inl (.inr ⟨e, h3⟩)
    · exact .inr (.inr ⟨e.symm, h3⟩)
  · rcases less_total e with h3 | h3
    · exact .inl (.inl h3)
    · exact .inr (.inl h3)
theorem ltL_asym {x y : Lab} (h : ltL x y = true) : ltL y x = false := by
  cases e : ltL y x with
  | false => rfl
  | true => have := ltL_trans h e; rw [ltL_irrefl] at this; cases this
theorem cmp_self : ∀ a : List Lab, cmp a a = 0
  | [] => rfl
  | x :: a => by rw [cmp, if_pos rfl]; exact cmp_self a
theorem cmp_range : ∀ a b : List Lab, cmp a b = -1 ∨ cmp a b = 0 ∨ cmp a b = 1
  | [], [] => by simp [cmp]
  | [], _ :: _ => by simp [cmp]
  | _ :: _, [] => by simp [cmp]
  | x :: a, y :: b => by
    rw [cmp]
    split
    · exact cmp_range a b
    · split <;> simp
theorem cmp_turn : ∀ a b : List Lab, cmp b a = - cmp a b
  | [], [] => rfl
  | [], _ :: _ => rfl
  | _ :: _, [] => rfl
  | x :: a, y :: b => by
    rw [cmp, cmp]
    by_cases e : x = y
    · subst e
      rw [if_pos rfl, if_pos rfl]
      exact cmp_turn a b
    · rw [if_neg e, if_neg (fun h => e h.symm)]
      rcases ltL_total e with h | h
      · rw [if_pos h, if_neg (by rw [ltL_asym h]; decide)]
        decide
      · rw [if_pos h, if_neg (by rw [ltL_asym h]; decide)]
theorem cmp_eq : ∀ {a b : List Lab}, cmp a b = 0 ↔ a = b
  | [], [] => by simp [cmp]
  | [], _ :: _ => by simp [cmp]
  | _ :: _, [] => by simp [cmp]
  | x :: a, y :: b => by
    rw [cmp]
    by_cases e : x = y
    · rw [if_pos e, cmp_eq]
      simp [e]
    · rw [if_neg e]
      constructor
      · intro h
        split at h <;> omega
      · intro h
        exact absurd (List.cons.inj h).1 e
theorem cmp_le : ∀ {a b c : List Lab}, cmp a b ≤ 0 → cmp b c ≤ 0 → cmp a c ≤ 0
  | [], _, [] => by simp [cmp]
  | [], _, _ :: _ => by simp [cmp]
  | _ :: _, [], _ => fun h _ => by simp [cmp] at h
  | _ :: _, _ :: _, [] => fun _ h => by simp [cmp] at h
  | x :: a, y :: b, z :: c => fun h h' => by
    rw [cmp] at h h' ⊢
    by_cases e : x = y
    · rw [if_pos e] at h
      subst e
      by_cases e2 : x = z
      · rw [if_pos e2] at h' ⊢
        exact cmp_le h h'
      · rw [if_neg e2] at h' ⊢
        exact h'
    · rw [if_neg e] at h
      have hxy : ltL x y = true := by
        by_cases h9 : ltL x y = true
        · exact h9
        · rw [if_neg h9] at h; omega
      by_cases e2 : y = z
      · subst e2
        rw [if_neg e, if_pos hxy]
        omega
      · rw [if_neg e2] at h'
        have hyz : ltL y z = true := by
          by_cases h9 : ltL y z = true
          · exact h9
          · rw [if_neg h9] at h'; omega
        have hxz := ltL_trans hxy hyz
        have e3 : x ≠ z := fun e3 => by subst e3; rw [ltL_irrefl] at hxz; cases hxz
        rw [if_neg e3, if_pos hxz]
        omega
theorem cmp_ge {a b c : List Lab} (h : 0 ≤ cmp a b) (h' : 0 ≤ cmp b c) : 0 ≤ cmp a c := by
  have h1 := cmp_turn a b
  have h2 := cmp_turn b c
  have h3 := cmp_turn a c
  have := cmp_le (a := c) (b := b) (c := a) (by omega) (by omega)
  omega

/-! ### The canonical list -/
def Asc (l : List Lab) : Prop := l.Pairwise fun a b => less a.1 b.1 = true
theorem mem_put {x z : Lab} : ∀ {l : List Lab}, z ∈ put x l ↔ z = x ∨ z ∈ l
  | [] => by simp [put]
  | y :: l => by
    rw [put]
    split
    · rw [List.mem_cons, mem_put, List.mem_cons]
      constructor
      · rintro (h | h | h)
        · exact .inr (.inl h)
        · exact .inl h
        · exact .inr (.inr h)
      · rintro (h | h | h)
        · exact .inr (.inl h)
        · exact .inl h
        · exact .inr (.inr h)
    · simp
theorem put_perm (x : Lab) : ∀ l : List Lab, (put x l).Perm (x :: l)
  | [] => List.Perm.refl _
  | y :: l => by
    rw [put]
    split
    · exact ((put_perm x l).cons y).trans (List.Perm.swap x y l)
    · exact List.Perm.refl _
theorem put_length (x : Lab) (l : List Lab) : (put x l).length = l.length + 1 := (put_perm x l).length_eq
theorem asc_put {x : Lab} : ∀ {l : List Lab}, Asc l → (∀ y ∈ l, y.1 ≠ x.1) → Asc (put x l)
  | [], _, _ => by unfold Asc; simp [put]
  | y :: l, h, hn => by
    unfold Asc at h ⊢
    rw [List.pairwise_cons] at h
    rw [put]
    split
    · rename_i hy
      rw [List.pairwise_cons]
      refine ⟨fun z hz => ?_, asc_put h.2 fun z hz => hn z (List.mem_cons_of_mem _ hz)⟩
      rcases mem_put.1 hz with rfl | hz
      · exact hy
      · exact h.1 z hz
    · rename_i hy
      have hxy : less x.1 y.1 = true := by
        rcases less_total (hn y (by simp)) with h3 | h3
        · exact absurd h3 hy
        · exact h3
      rw [List.pairwise_cons, List.pairwise_cons]
      refine ⟨fun z hz => ?_, h⟩
      rcases List.mem_cons.1 hz with rfl | hz
      · exact hxy
      · exact less_trans hxy (h.1 z hz)
theorem foldl_perm : ∀ (l o : List Lab), (l.foldl (fun o x => put x o) o).Perm (o ++ l)
  | [], o => by simp
  | x :: l, o => by
    rw [List.foldl_cons]
    refine (foldl_perm l (put x o)).trans ?_
    refine ((put_perm x o).append_right l).trans ?_
    rw [List.cons_append]
    exact List.perm_middle.symm
theorem sort_perm (l : List Lab) : (sort l).Perm l := by
  have h := foldl_perm l []
  rw [List.nil_append] at h
  exact h
theorem sort_length (l : List Lab) : (sort l).length = l.length := (sort_perm l).length_eq
theorem foldl_asc : ∀ (l o : List Lab), Asc o → (l.map Prod.fst).Nodup → (∀ x ∈ l, ∀ y ∈ o, y.1 ≠ x.1) → Asc (l.foldl (fun o x => put x o) o)
  | [], o, h, _, _ => h
  | x :: l, o, h, hd, hn => by
    rw [List.map_cons, List.nodup_cons] at hd
    rw [List.foldl_cons]
    refine foldl_asc l _ (asc_put h (hn x (by simp))) hd.2 fun z hz y hy => ?_
    rcases mem_put.1 hy with rfl | hy
    · exact fun e => hd.1 (e ▸ List.mem_map_of_mem hz)
    · exact hn z (List.mem_cons_of_mem _ hz) y hy
theorem sort_asc {l : List Lab} (h : (l.map Prod.fst).Nodup) : Asc (sort l) := foldl_asc l [] (by unfold Asc; simp) h (by simp)
theorem asc_nodup {l : List Lab} (h : Asc l) : (l.map Prod.fst).Nodup := by
  unfold List.Nodup
  rw [List.pairwise_map]
  exact h.imp fun {a b} h e => by rw [e, less_irrefl] at h; cases h
theorem asc_ext {a b : List Lab} (ha : Asc a) (hb : Asc b) (h : a.Perm b) : a = b := by
  unfold Asc at ha hb
  exact List.Perm.eq_of_pairwise (le := fun x y => less x.1 y.1 = true) (fun x y _ _ h1 h2 => by have := less_trans h1 h2; rw [less_irrefl] at this; cases this) ha hb h
theorem sort_self {l : List Lab} (h : Asc l) : sort l = l := asc_ext (sort_asc (asc_nodup h)) h (sort_perm l)
theorem sort_of_perm {l m : List Lab} (h : l.Perm m) (hd : (l.map Prod.fst).Nodup) : sort l = sort m :=
  asc_ext (sort_asc hd) (sort_asc ((h.map _).nodup_iff.1 hd)) ((sort_perm l).trans (h.trans (sort_perm m).symm))
theorem firstErr_zero {l : List Lab} : firstErr l = 0 ↔ ∀ x ∈ l, lerr x = 0 := by
  induction l with
  | nil => simp [firstErr]
  | cons x l ih =>
    rw [firstErr]
    by_cases h : lerr x = 0
    · rw [if_pos h, ih]
      simp [h]
    · rw [if_neg h]
      simp [h]
/-- A list that may be. -/
structure May (l : List Lab) : Prop where
  few : l.length ≤ 16
  each : ∀ x ∈ l, lerr x = 0
  nodup : (l.map Prod.fst).Nodup
theorem May.perm {l m : List Lab} (h : May l) (hp : l.Perm m) : May m := ⟨hp.length_eq ▸ h.few, fun x hx => h.each x (hp.mem_iff.2 hx), (hp.map _).nodup_iff.1 h.nodup⟩
theorem canon_may {l : List Lab} (h : May l) : canon l = (0, sort l) := by
  unfold canon dup
  rw [if_neg (by have := h.few; omega), if_neg (by simpa using firstErr_zero.2 h.each), if_neg (by simpa using h.nodup)]
theorem canon_not {l : List Lab} (h : ¬ May l) : (canon l).1 ≠ 0 ∧ (canon l).2 = [] := by
  unfold canon
  split
  · simp
  · rename_i h1
    split
    · rename_i h2
      exact ⟨h2, rfl⟩
    · rename_i h2
      split
      · simp
      · rename_i h3
        unfold dup at h3
        simp at h2 h3
        exact absurd ⟨by omega, firstErr_zero.1 h2, h3⟩ h
theorem may_iff {l : List Lab} : May l ↔ (canon l).1 = 0 := by
  constructor
  · intro h; rw [canon_may h]
  · intro h
    by_cases hm : May l
    · exact hm
    · exact absurd h (canon_not hm).1
/-- A canonical list. -/
theorem canon_self {l : List Lab} (h : May l) (ha : Asc l) : canon l = (0, l) := by rw [canon_may h, sort_self ha]
theorem may_sort {l : List Lab} (h : May l) : May (sort l) ∧ Asc (sort l) := ⟨h.perm (sort_perm l).symm, sort_asc h.nodup⟩
theorem canon_turn {l m : List Lab} (hp : l.Perm m) : ((canon l).1 = 0 ↔ (canon m).1 = 0) ∧ (canon l).2 = (canon m).2 := by
  by_cases h : May l
  · have hm := h.perm hp
    rw [canon_may h, canon_may hm]
    exact ⟨by simp, sort_of_perm hp h.nodup⟩
  · have hm : ¬ May m := fun hm => h (hm.perm hp.symm)
    refine ⟨⟨fun e => absurd e (canon_not h).1, fun e => absurd e (canon_not hm).1⟩, ?_⟩
    rw [(canon_not h).2, (canon_not hm).2]

/-! ### What is found -/
theorem find_mem : ∀ {l : List Lab}, (l.map Prod.fst).Nodup → ∀ {x : Lab}, x ∈ l → find l x.1 = some x.2
  | y :: l, hd, x, hx => by
    rw [List.map_cons, List.nodup_cons] at hd
    unfold find
    rw [List.find?_cons]
    by_cases e : y.1 = x.1
    · rw [show (y.1 == x.1) = true by simpa using e]
      rcases List.mem_cons.1 hx with rfl | hx
      · rfl
      · exact absurd (e ▸ List.mem_map_of_mem hx) hd.1
    · rw [show (y.1 == x.1) = false by simpa using e]
      rcases List.mem_cons.1 hx with rfl | hx
      · exact absurd rfl e
      · exact find_mem hd.2 hx
theorem find_none {l : List Lab} {n : List UInt8} : find l n = none ↔ n ∉ l.map Prod.fst := by
  unfold find
  rw [Option.map_eq_none_iff, List.find?_eq_none, List.mem_map]
  constructor
  · rintro h ⟨x, hx, rfl⟩
    exact h x hx (by simp)
  · intro h x hx e
    exact h ⟨x, hx, by simpa using e⟩
/-- A label more, put where it belongs. -/
def posL (n : List UInt8) (l : List Lab) : Nat := (l.takeWhile fun y => less y.1 n).length
theorem put_at (x : Lab) : ∀ l : List Lab, put x l = l.take (posL x.1 l) ++ x :: l.drop (posL x.1 l)
  | [] => rfl
  | y :: l => by
    rw [put]
    unfold posL
    rw [List.takeWhile_cons]
    split
    · rename_i h
      rw [List.length_cons, List.take_succ_cons, List.drop_succ_cons, List.cons_append, put_at x l]
      rfl
    · rename_i h
      rfl
theorem posL_le (n : List UInt8) (l : List Lab) : posL n l ≤ l.length := (List.takeWhile_prefix _).length_le
theorem sort_snoc (l : List Lab) (x : Lab) : sort (l ++ [x]) = put x (sort l) := by unfold sort; rw [List.foldl_append]; rfl
end Go.Proofs.Ytngkhcbnndkdeaa.LbSpec
