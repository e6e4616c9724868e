/- Plain: the text of a list of labels and its reading: each the other turned round. No conditions. -/
import Derived.Test.YtngkhcbnndkdeaaLbSpec
namespace Go.Proofs.Ytngkhcbnndkdeaa.LbText
open Go UtSpec Less LbSpec

def esc1 (b : UInt8) : List UInt8 := if b = 34 ∨ b = 92 then [92, b] else if b = 10 then [92, 110] else [b]
def esc (v : List UInt8) : List UInt8 := v.flatMap esc1
def one (x : Lab) : List UInt8 := x.1 ++ (61 :: 34 :: (esc x.2 ++ [34]))
def body : List Lab → List UInt8
  | [] => []
  | x :: l => one x ++ (if l = [] then [] else 44 :: body l)
def write (l : List Lab) : List UInt8 := 123 :: (body l ++ [125])
/-- A name, and what is behind its =". -/
def nm : List UInt8 → Option (List UInt8 × List UInt8)
  | [] => none
  | c :: t => if c = 61 ∧ t.head? = some 34 then some ([], t.tail) else (nm t).map fun p => (c :: p.1, p.2)
/-- A value, and what is behind its closing quote. -/
def un : List UInt8 → Option (List UInt8 × List UInt8)
  | [] => none
  | c :: t => if c = 34 then some ([], t) else if c = 10 then none else if c = 92 then (match t with
      | [] => none
      | d :: t' => if d = 34 ∨ d = 92 then (un t').map fun p => (d :: p.1, p.2) else if d = 110 then (un t').map fun p => (10 :: p.1, p.2) else none)
    else (un t).map fun p => (c :: p.1, p.2)
def oneR (t : List UInt8) : Option (Lab × List UInt8) :=
  match nm t with
  | none => none
  | some (n, r) => if n.contains 32 = true then none else match un r with
    | none => none
    | some (v, r') => some ((n, v), r')
def itemsF : Nat → List UInt8 → Option (List Lab × List UInt8)
  | 0, _ => none
  | f + 1, t => match oneR t with
    | none => none
    | some (x, r) => if r.head? = some 44 then (itemsF f r.tail).map fun p => (x :: p.1, p.2) else some ([x], r)
def parse (s : List UInt8) : Option (List Lab) :=
  if s = [123, 125] then some [] else if s.head? = some 123 then (match itemsF s.length s.tail with
    | none => none
    | some (l, r) => if r = [125] then some l else none) else none
def read (s : List UInt8) : Nat × List Lab :=
  match parse s with
  | none => (6, [])
  | some l => if (canon l).1 ≠ 0 then ((canon l).1, []) else if cmp (canon l).2 l ≠ 0 then (6, []) else (0, (canon l).2)

theorem un_one (c : UInt8) : un [c] = if c = 34 then some ([], []) else none := by
  rw [un.eq_def]
  simp only []
  split
  · rfl
  · split
    · rfl
    · split
      · rfl
      · rfl
theorem un_quote (t : List UInt8) : un (34 :: t) = some ([], t) := by
  cases t with
  | nil => rfl
  | cons d t => rw [un.eq_def]; rfl
theorem un_two (c d : UInt8) (t : List UInt8) : un (c :: d :: t) = if c = 34 then some ([], d :: t) else if c = 10 then none else if c = 92 then (if d = 34 ∨ d = 92 then (un t).map fun p => (d :: p.1, p.2) else if d = 110 then (un t).map fun p => (10 :: p.1, p.2) else none) else (un (d :: t)).map fun p => (c :: p.1, p.2) := by
  rw [un.eq_def]
theorem un_plain {c : UInt8} (h1 : c ≠ 34) (h2 : c ≠ 10) (h3 : c ≠ 92) (t : List UInt8) : un (c :: t) = (un t).map fun p => (c :: p.1, p.2) := by
  cases t with
  | nil => rw [un_one, if_neg h1]; rfl
  | cons d t => rw [un_two, if_neg h1, if_neg h2, if_neg h3]
theorem esc_cons (c : UInt8) (v : List UInt8) : esc (c :: v) = esc1 c ++ esc v := by simp [esc]
theorem un_esc : ∀ (v r : List UInt8), un (esc v ++ 34 :: r) = some (v, r)
  | [], r => by rw [show esc [] = [] from rfl, List.nil_append, un_quote]
  | c :: v, r => by
    have ih := un_esc v r
    rw [esc_cons, List.append_assoc]
    unfold esc1
    split
    · rename_i h
      rw [List.cons_append, List.cons_append, List.nil_append, un_two, if_neg (by decide), if_neg (by decide), if_pos rfl, if_pos h, ih]
      rfl
    · rename_i h
      rw [not_or] at h
      split
      · rename_i h2
        subst h2
        rw [List.cons_append, List.cons_append, List.nil_append, un_two, if_neg (by decide), if_neg (by decide), if_pos rfl, if_neg (by decide), if_pos rfl, ih]
        rfl
      · rename_i h2
        rw [List.cons_append, List.nil_append, un_plain h.1 h2 h.2, ih]
        rfl
theorem un_inv : ∀ (t : List UInt8) {v r : List UInt8}, un t = some (v, r) → t = esc v ++ 34 :: r
  | [], v, r, h => by simp [un] at h
  | [c], v, r, h => by
    rw [un_one] at h
    split at h
    · rename_i hc
      simp at h
      obtain ⟨rfl, rfl⟩ := h
      rw [hc]
      rfl
    · cases h
  | c :: d :: t, v, r, h => by
    rw [un_two] at h
    split at h
    · rename_i hc
      simp at h
      obtain ⟨rfl, rfl⟩ := h
      rw [hc]
      rfl
    · rename_i hc
      split at h
      · cases h
      · rename_i hc2
        split at h
        · rename_i hc3
          split at h
          · rename_i hd
            rw [Option.map_eq_some_iff] at h
            obtain ⟨p, hp, he⟩ := h
            obtain ⟨rfl, rfl⟩ := Prod.mk.inj he
            rw [un_inv t hp, esc_cons, hc3]
            unfold esc1
            rw [if_pos hd]
            rfl
          · split at h
            · rename_i hd2
              rw [Option.map_eq_some_iff] at h
              obtain ⟨p, hp, he⟩ := h
              obtain ⟨rfl, rfl⟩ := Prod.mk.inj he
              rw [un_inv t hp, esc_cons, hc3, hd2]
              rfl
            · cases h
        · rename_i hc3
          rw [Option.map_eq_some_iff] at h
          obtain ⟨p, hp, he⟩ := h
          obtain ⟨rfl, rfl⟩ := Prod.mk.inj he
          rw [un_inv (d :: t) hp, esc_cons]
          unfold esc1
          rw [if_neg (by simp [hc, hc3]), if_neg hc2]
          rfl
theorem nm_inv : ∀ (t : List UInt8) {n r : List UInt8}, nm t = some (n, r) → t = n ++ 61 :: 34 :: r
  | [], n, r, h => by simp [nm] at h
  | c :: t, n, r, h => by
    rw [nm] at h
    split at h
    · rename_i hc
      simp at h
      obtain ⟨rfl, rfl⟩ := h
      obtain ⟨h1, h2⟩ := hc
      cases t with
      | nil => simp at h2
      | cons d t =>
        simp at h2
        rw [h1, h2]
        rfl
    · rw [Option.map_eq_some_iff] at h
      obtain ⟨p, hp, he⟩ := h
      obtain ⟨rfl, rfl⟩ := Prod.mk.inj he
      rw [nm_inv t hp]
      rfl
theorem nm_of : ∀ {n : List UInt8}, (∀ c ∈ n, c ≠ 61) → ∀ r, nm (n ++ 61 :: 34 :: r) = some (n, r)
  | [], _, r => by simp [nm]
  | c :: n, h, r => by
    rw [List.cons_append, nm, if_neg (fun e => h c (by simp) e.1), nm_of (fun x hx => h x (by simp [hx])) r]
    rfl
theorem one_inv {t r : List UInt8} {x : Lab} (h : oneR t = some (x, r)) : t = one x ++ r := by
  unfold oneR at h
  cases hn : nm t with
  | none => simp [hn] at h
  | some p =>
    obtain ⟨n, r1⟩ := p
    rw [hn] at h
    simp only [] at h
    by_cases h32 : n.contains 32 = true
    · rw [if_pos h32] at h
      cases h
    rw [if_neg h32] at h
    cases hu : un r1 with
    | none => simp [hu] at h
    | some q =>
      obtain ⟨v, r2⟩ := q
      rw [hu] at h
      simp at h
      obtain ⟨rfl, rfl⟩ := h
      rw [nm_inv t hn, un_inv r1 hu]
      simp [one]
theorem one_of {x : Lab} (h : ∀ c ∈ x.1, c ≠ 61 ∧ c ≠ 32) (r : List UInt8) : oneR (one x ++ r) = some (x, r) := by
  have e : one x ++ r = x.1 ++ 61 :: 34 :: (esc x.2 ++ 34 :: r) := by simp [one]
  unfold oneR
  rw [e, nm_of (fun c hc => (h c hc).1)]
  simp only []
  rw [if_neg (by rw [List.contains_iff_mem]; exact fun hm => (h 32 hm).2 rfl), un_esc]
theorem items_inv : ∀ (f : Nat) {t : List UInt8} {l : List Lab} {r : List UInt8}, itemsF f t = some (l, r) → l ≠ [] ∧ t = body l ++ r
  | 0, t, l, r, h => by simp [itemsF] at h
  | f + 1, t, l, r, h => by
    rw [itemsF] at h
    cases ho : oneR t with
    | none => simp [ho] at h
    | some p =>
      obtain ⟨x, r1⟩ := p
      rw [ho] at h
      simp only [] at h
      have h1 := one_inv ho
      split at h
      · rename_i hc
        rw [Option.map_eq_some_iff] at h
        obtain ⟨q, hq, he⟩ := h
        obtain ⟨l2, r2⟩ := q
        obtain ⟨rfl, rfl⟩ := Prod.mk.inj he
        obtain ⟨hl, ht⟩ := items_inv f hq
        refine ⟨by simp, ?_⟩
        rw [h1, body, if_neg hl]
        cases r1 with
        | nil => simp at hc
        | cons c r1 =>
          simp at hc ht
          rw [hc, ht]
          simp
      · simp at h
        obtain ⟨rfl, rfl⟩ := h
        refine ⟨by simp, ?_⟩
        rw [h1]
        simp [body]
theorem one_len (x : Lab) : 3 ≤ (one x).length := by simp [one]; omega
theorem items_of : ∀ (f : Nat) {l : List Lab} {r : List UInt8}, l ≠ [] → (∀ x ∈ l, ∀ c ∈ x.1, c ≠ 61 ∧ c ≠ 32) → r.head? ≠ some 44 → l.length ≤ f → itemsF f (body l ++ r) = some (l, r)
  | 0, l, r, hl, _, _, hf => absurd (List.eq_nil_of_length_eq_zero (by omega)) hl
  | f + 1, [], r, hl, _, _, _ => absurd rfl hl
  | f + 1, x :: l, r, _, hn, hr, hf => by
    rw [itemsF, body, List.append_assoc, one_of (hn x (by simp))]
    simp only []
    by_cases e : l = []
    · subst e
      rw [if_pos rfl, List.nil_append, if_neg hr]
    · rw [if_neg e, List.cons_append, List.head?_cons, if_pos rfl, List.tail_cons, items_of f e (fun y hy => hn y (by simp [hy])) hr (by simp at hf; omega)]
      rfl
theorem body_len : ∀ l : List Lab, l.length ≤ (body l).length
  | [] => Nat.zero_le _
  | x :: l => by
    rw [body, List.length_append, List.length_cons]
    have h1 := one_len x
    have h2 := body_len l
    by_cases e : l = []
    · subst e
      simp
      omega
    · rw [if_neg e, List.length_cons]
      omega
theorem write_len (l : List Lab) : (write l).length = (body l).length + 2 := by unfold write; simp
theorem parse_inv {s : List UInt8} {l : List Lab} (h : parse s = some l) : write l = s := by
  unfold parse at h
  split at h
  · rename_i hs
    simp at h
    subst h
    rw [hs]
    rfl
  · split at h
    · rename_i hc
      cases hi : itemsF s.length s.tail with
      | none => simp [hi] at h
      | some p =>
        obtain ⟨l2, r⟩ := p
        rw [hi] at h
        simp only [] at h
        split at h
        · rename_i hr
          simp at h
          subst h
          obtain ⟨_, ht⟩ := items_inv _ hi
          cases s with
          | nil => simp at hc
          | cons c s =>
            simp at hc ht
            rw [write, hc, ht, hr]
        · cases h
    · cases h
theorem parse_of {l : List Lab} (hn : ∀ x ∈ l, ∀ c ∈ x.1, c ≠ 61 ∧ c ≠ 32) : parse (write l) = some l := by
  unfold parse
  by_cases e : l = []
  · subst e
    rfl
  · have hb := body_len l
    have h0 : 0 < l.length := List.length_pos_iff.2 e
    rw [if_neg, if_pos (by simp [write])]
    · have h1 : itemsF (write l).length (write l).tail = some (l, [125]) := items_of _ (r := [125]) e hn (by decide) (by unfold write; simp; omega)
      rw [h1]
      simp
    · intro h
      have h3 := congrArg List.length h
      rw [write_len] at h3
      have h4 : 3 ≤ (body l).length := by
        cases l with
        | nil => exact absurd rfl e
        | cons x l =>
          rw [body, List.length_append]
          have := one_len x
          omega
      rw [show ([123, 125] : List UInt8).length = 2 from rfl] at h3
      omega
theorem name_no {n : List UInt8} (h : nameOk n = true) : ∀ c ∈ n, c ≠ 61 ∧ c ≠ 32 := by
  cases n with
  | nil => simp
  | cons a t =>
    unfold nameOk at h
    simp only [Bool.and_eq_true, List.all_eq_true] at h
    have key : ∀ c : UInt8, (letter c || digit c) = true → c ≠ 61 ∧ c ≠ 32 := by
      intro c hc
      constructor
      · intro e
        subst e
        revert hc
        decide
      · intro e
        subst e
        revert hc
        decide
    intro c hc
    rcases List.mem_cons.1 hc with rfl | hc
    · exact key c (by rw [h.1.1]; rfl)
    · exact key c (h.1.2 c hc)
theorem lerr_name {x : Lab} (h : lerr x = 0) : nameOk x.1 = true := by
  unfold lerr at h
  split at h
  · assumption
  · cases h
theorem may_names {l : List Lab} (h : May l) : ∀ x ∈ l, ∀ c ∈ x.1, c ≠ 61 ∧ c ≠ 32 := fun x hx => name_no (lerr_name (h.each x hx))
theorem read_back {c : List Lab} (h : May c) (ha : Asc c) : read (write c) = (0, c) := by
  unfold read
  rw [parse_of (may_names h)]
  simp only []
  rw [canon_self h ha, if_neg (by simp), if_neg (by simp [cmp_self])]
theorem read_ok {s : List UInt8} (h : (read s).1 = 0) : write (read s).2 = s ∧ May (read s).2 ∧ Asc (read s).2 := by
  unfold read at h ⊢
  cases hp : parse s with
  | none => rw [hp] at h; cases h
  | some l =>
    rw [hp] at h
    simp only [] at h ⊢
    split at h
    · rename_i h1
      exact absurd h h1
    · rename_i h1
      rw [if_neg h1]
      split at h
      · cases h
      · rename_i h2
        rw [if_neg h2]
        have hm : May l := may_iff.2 (by omega)
        have e : (canon l).2 = l := cmp_eq.1 (by omega)
        have e2 : (canon l).2 = sort l := by rw [canon_may hm]
        simp only []
        have e3 : sort l = l := e2.symm.trans e
        rw [e]
        exact ⟨parse_inv hp, hm, by rw [← e3]; exact (may_sort hm).2⟩
theorem write_inj {c m : List Lab} (hc : May c) (hm : May m) (h : write c = write m) : c = m := by
  have h1 := parse_of (may_names hc)
  have h2 := parse_of (may_names hm)
  rw [h, h2] at h1
  exact (Option.some.inj h1).symm
theorem read_not {s : List UInt8} (h : (read s).1 ≠ 0) : (read s).2 = [] := by
  unfold read at h ⊢
  cases hp : parse s with
  | none => rfl
  | some l =>
    rw [hp] at h
    simp only [] at h ⊢
    split at h
    · rename_i h1
      rw [if_pos h1]
    · rename_i h1
      rw [if_neg h1]
      split at h
      · rename_i h2
        rw [if_pos h2]
      · exact absurd rfl h
end Go.Proofs.Ytngkhcbnndkdeaa.LbText
