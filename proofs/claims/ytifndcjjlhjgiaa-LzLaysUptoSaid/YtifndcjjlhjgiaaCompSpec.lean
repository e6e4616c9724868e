/- How the program compresses, in plain lists (no program in this text): 'comp'; what it answers becomes what came in, has at most six bytes more, is short of bytes that are all the same, and with its last byte gone is refused. No conditions but 65536 bytes. -/
import Derived.Test.YtifndcjjlhjgiaaLaySpec
namespace Go.Proofs.Ytifndcjjlhjgiaa.CompSpec
open Go Plain LaySpec

/-- The four bytes at a place. -/
def four (b : List UInt8) (i : Nat) : List UInt8 := (b.drop i).take 4
/-- Where these four bytes last stood, ahead of the place m. -/
def last (b q : List UInt8) : Nat → Option Nat
  | 0 => none
  | m + 1 => if m + 4 ≤ b.length ∧ four b m = q then some m else last b q m
def findAt (b : List UInt8) (a : Nat) : Option Nat := if a + 4 ≤ b.length then last b (four b a) a else none
/-- How many bytes from a on are those from f on. -/
def ext (b : List UInt8) (f a : Nat) : Nat → Nat → Nat
  | 0, n => n
  | k + 1, n => if a + n < b.length ∧ b.getD (f + n) 0 = b.getD (a + n) 0 then ext b f a k (n + 1) else n
def echo (b : List UInt8) (a : Nat) : Nat × List UInt8 :=
  match findAt b a with
  | none => (0, [])
  | some f => (ext b f a (b.length - (a + 4)) 4, Lib.uvarint (2 * ext b f a (b.length - (a + 4)) 4 + 1) ++ Lib.uvarint (a - f))
def plainP (x : List UInt8) : List UInt8 := if x = [] then [] else Lib.uvarint (2 * x.length) ++ x
def parts (b : List UInt8) : Nat → Nat → Nat → List UInt8 → List UInt8
  | 0, done, _, acc => acc ++ plainP (b.drop done)
  | k + 1, done, a, acc =>
    if a < b.length then
      if (echo b a).1 ≤ (echo b a).2.length then parts b k done (a + 1) acc
      else parts b k (a + (echo b a).1) (a + (echo b a).1) (acc ++ plainP ((b.take a).drop done) ++ (echo b a).2)
    else acc ++ plainP (b.drop done)
def body (b : List UInt8) : List UInt8 := if (plainP b).length < (parts b b.length 0 0 []).length then plainP b else parts b b.length 0 0 []
def comp (b : List UInt8) : List UInt8 := Lib.uvarint b.length ++ body b

theorem last_some {b q : List UInt8} {m f : Nat} (h : last b q m = some f) : f < m ∧ f + 4 ≤ b.length ∧ four b f = q := by
  induction m with
  | zero => cases h
  | succ m ih =>
    rw [last] at h
    by_cases hc : m + 4 ≤ b.length ∧ four b m = q
    · rw [if_pos hc] at h
      cases h
      exact ⟨by omega, hc.1, hc.2⟩
    · rw [if_neg hc] at h
      have := ih h
      exact ⟨by omega, this.2⟩
theorem four_length {b : List UInt8} {i : Nat} (h : i + 4 ≤ b.length) : (four b i).length = 4 := by simp [four]; omega
theorem four_at {b : List UInt8} {i j : Nat} (hj : j < 4) (h : i + 4 ≤ b.length) : b.getD (i + j) 0 = (four b i).getD j 0 := by
  simp [four, List.getD, List.getElem?_take, hj]
theorem findAt_some {b : List UInt8} {a f : Nat} (h : findAt b a = some f) : f < a ∧ a + 4 ≤ b.length ∧ ∀ j, j < 4 → b.getD (f + j) 0 = b.getD (a + j) 0 := by
  unfold findAt at h
  by_cases hc : a + 4 ≤ b.length
  · rw [if_pos hc] at h
    have h1 := last_some h
    refine ⟨h1.1, hc, fun j hj => ?_⟩
    rw [four_at hj h1.2.1, four_at hj hc, h1.2.2]
  · rw [if_neg hc] at h; cases h
theorem ext_le {b : List UInt8} {f a : Nat} : ∀ (k n : Nat), n ≤ ext b f a k n ∧ (a + n ≤ b.length → a + ext b f a k n ≤ b.length) := by
  intro k
  induction k with
  | zero => intro n; exact ⟨Nat.le_refl _, id⟩
  | succ k ih =>
    intro n
    rw [ext]
    by_cases hc : a + n < b.length ∧ b.getD (f + n) 0 = b.getD (a + n) 0
    · rw [if_pos hc]
      have := ih (n + 1)
      exact ⟨by omega, fun _ => this.2 (by omega)⟩
    · rw [if_neg hc]; exact ⟨Nat.le_refl _, id⟩
theorem ext_same {b : List UInt8} {f a : Nat} : ∀ (k n : Nat), (∀ j, j < n → b.getD (f + j) 0 = b.getD (a + j) 0) → ∀ j, j < ext b f a k n → b.getD (f + j) 0 = b.getD (a + j) 0 := by
  intro k
  induction k with
  | zero => intro n h; exact h
  | succ k ih =>
    intro n h
    rw [ext]
    by_cases hc : a + n < b.length ∧ b.getD (f + n) 0 = b.getD (a + n) 0
    · rw [if_pos hc]
      refine ih (n + 1) fun j hj => ?_
      rcases Nat.lt_succ_iff_lt_or_eq.1 hj with h1 | rfl
      · exact h j h1
      · exact hc.2
    · rw [if_neg hc]; exact h

/-- An echo of bytes that stand there already lays them. -/
theorem echoN_take {b : List UInt8} {f a : Nat} (hfa : f < a) : ∀ (n m : Nat), a + m + n ≤ b.length → (∀ j, j < m + n → b.getD (f + j) 0 = b.getD (a + j) 0) → echoN (a - f) n (b.take (a + m)) = b.take (a + m + n) := by
  intro n
  induction n with
  | zero => intro m _ _; rfl
  | succ n ih =>
    intro m hl h
    rw [echoN]
    have hlen : (b.take (a + m)).length = a + m := by simp; omega
    have e1 : (b.take (a + m)).getD ((b.take (a + m)).length - (a - f)) 0 = b.getD (a + m) 0 := by
      rw [hlen, show a + m - (a - f) = f + m by omega, ← h m (by omega)]
      simp [List.getD, List.getElem?_take, show f + m < a + m by omega]
    have e2 : b.take (a + m) ++ [b.getD (a + m) 0] = b.take (a + (m + 1)) := by
      rw [← Nat.add_assoc, List.take_add_one]
      simp [List.getD, List.getElem?_eq_getElem (show a + m < b.length by omega)]
    rw [e1, e2, ih (m + 1) (by omega) (fun j hj => h j (by omega))]
    congr 1
    omega

theorem dec_uv (x : Nat) (r : List UInt8) (h : x < 18446744073709551616) : dec 0 0 (Lib.uvarint x ++ r) = (x, (Lib.uvarint x).length, 0) := by
  have := dec_uvarint 9 0 0 x r rfl (by omega) (by simpa using h) (by omega)
  simpa using this

section
variable {size : Nat} {l rest : List UInt8}
theorem lay_plain {x : List UInt8} (h : l.length + x.length ≤ size) (hs : size ≤ 65536) : lay size (plainP x ++ rest) l = lay size rest (l ++ x) := by
  unfold plainP
  by_cases hx : x = []
  · subst hx; simp
  · have hpos : 0 < x.length := List.length_pos_iff.2 hx
    rw [if_neg hx, List.append_assoc]
    have hd := dec_uv (2 * x.length) (x ++ rest) (by omega)
    have hp := Lib.uvarint_pos (2 * x.length)
    have hne : Lib.uvarint (2 * x.length) ++ (x ++ rest) ≠ [] := by
      intro e
      have := congrArg List.length e
      rw [List.length_append, List.length_nil] at this
      omega
    have e2 : 2 * x.length / 2 = x.length := by omega
    rw [lay_ok hne (part_plain hd (by omega) (by omega) (by rw [List.length_append, List.length_append]; omega)), e2]
    rw [List.drop_left, List.take_left, ← List.drop_drop, List.drop_left, List.drop_left]
theorem lay_echo {n d : Nat} (h4 : 4 ≤ n) (h : l.length + n ≤ size) (hs : size ≤ 65536) (hd1 : 1 ≤ d) (hd2 : d ≤ l.length) :
    lay size (Lib.uvarint (2 * n + 1) ++ Lib.uvarint d ++ rest) l = lay size rest (echoN d n l) := by
  rw [List.append_assoc]
  have hd := dec_uv (2 * n + 1) (Lib.uvarint d ++ rest) (by omega)
  have hdd := dec_uv d rest (by omega)
  have hp := Lib.uvarint_pos (2 * n + 1)
  have hne : Lib.uvarint (2 * n + 1) ++ (Lib.uvarint d ++ rest) ≠ [] := by
    intro e
    have := congrArg List.length e
    rw [List.length_append, List.length_nil] at this
    omega
  have e2 : (2 * n + 1) / 2 = n := by omega
  rw [lay_ok hne (part_echo hd (by omega) (by omega) (by rw [List.drop_left]; exact hdd) (by omega)), e2]
  rw [← List.drop_drop, List.drop_left, List.drop_left]
end

theorem echo_none {b : List UInt8} {a : Nat} (h : findAt b a = none) : echo b a = (0, []) := by unfold echo; rw [h]
theorem echo_some {b : List UInt8} {a f : Nat} (h : findAt b a = some f) : echo b a = (ext b f a (b.length - (a + 4)) 4, Lib.uvarint (2 * ext b f a (b.length - (a + 4)) 4 + 1) ++ Lib.uvarint (a - f)) := by unfold echo; rw [h]
theorem echo_le {b : List UInt8} {a : Nat} (ha : a ≤ b.length) : a + (echo b a).1 ≤ b.length := by
  cases h : findAt b a with
  | none => rw [echo_none h]; simpa using ha
  | some f =>
    rw [echo_some h]
    exact (ext_le _ 4).2 (findAt_some h).2.1
theorem lay_echo_at {b rest : List UInt8} {a : Nat} (hs : b.length ≤ 65536) (he : (echo b a).2.length < (echo b a).1) : lay b.length ((echo b a).2 ++ rest) (b.take a) = lay b.length rest (b.take (a + (echo b a).1)) := by
  cases h : findAt b a with
  | none => rw [echo_none h] at he; simp at he
  | some f =>
    have hf := findAt_some h
    have h1 := ext_le (b := b) (f := f) (a := a) (b.length - (a + 4)) 4
    have h2 := ext_same (b := b) (f := f) (a := a) (b.length - (a + 4)) 4 hf.2.2
    rw [echo_some h]
    generalize ext b f a (b.length - (a + 4)) 4 = n at *
    have h3 := h1.2 hf.2.1
    have hlen : (b.take a).length = a := by simp; omega
    rw [lay_echo h1.1 (by omega) hs (by omega) (by omega)]
    have := echoN_take hf.1 n 0 (by omega) (by simpa using h2)
    rw [Nat.add_zero] at this
    rw [this]

/-- What the parts lay. -/
theorem lay_parts {b : List UInt8} (hs : b.length ≤ 65536) : ∀ (k done a : Nat) (acc : List UInt8), b.length ≤ a + k → done ≤ a → a ≤ b.length → (∀ rest, lay b.length (acc ++ rest) [] = lay b.length rest (b.take done)) →
    lay b.length (parts b k done a acc) [] = (0, b) := by
  have fin : ∀ (done : Nat) (acc : List UInt8), done ≤ b.length → (∀ rest, lay b.length (acc ++ rest) [] = lay b.length rest (b.take done)) → lay b.length (acc ++ plainP (b.drop done)) [] = (0, b) := by
    intro done acc hd h
    rw [h]
    have := lay_plain (size := b.length) (l := b.take done) (rest := []) (x := b.drop done) (by simp; omega) hs
    rw [List.append_nil, List.take_append_drop] at this
    rw [this, lay_nil, if_neg (by omega)]
  intro k
  induction k with
  | zero => intro done a acc hk hda hab h; exact fin done acc (by omega) h
  | succ k ih =>
    intro done a acc hk hda hab h
    rw [parts]
    by_cases hlt : a < b.length
    · rw [if_pos hlt]
      by_cases he : (echo b a).1 ≤ (echo b a).2.length
      · rw [if_pos he]
        exact ih done (a + 1) acc (by omega) (by omega) (by omega) h
      · rw [if_neg he]
        refine ih _ _ _ (by omega) (by omega) (echo_le hab) fun rest => ?_
        have e1 : b.take done ++ (b.take a).drop done = b.take a := by
          conv => rhs; rw [← List.take_append_drop done (b.take a)]
          rw [List.take_take, Nat.min_eq_left hda]
        rw [List.append_assoc, List.append_assoc, h, lay_plain (by simp; omega) hs, e1, lay_echo_at hs (by omega)]
    · rw [if_neg hlt]
      exact fin done acc (by omega) h
theorem lay_body {b : List UInt8} (hs : b.length ≤ 65536) : lay b.length (body b) [] = (0, b) := by
  unfold body
  by_cases h : (plainP b).length < (parts b b.length 0 0 []).length
  · rw [if_pos h]
    have := lay_plain (size := b.length) (l := []) (rest := []) (x := b) (by simp) hs
    rw [List.append_nil, List.nil_append] at this
    rw [this, lay_nil, if_neg (by omega)]
  · rw [if_neg h]
    exact lay_parts hs _ 0 0 [] (by omega) (by omega) (by omega) (fun rest => by simp)

theorem uv3 (n : Nat) (h : n < 2097152) : (Lib.uvarint n).length ≤ 3 := by
  by_cases h1 : n < 128
  · rw [Lib.uvarint_small h1]; simp
  · rw [Lib.uvarint_big (by omega), List.length_cons]
    by_cases h2 : n / 128 < 128
    · rw [Lib.uvarint_small h2]; simp
    · rw [Lib.uvarint_big (by omega), List.length_cons, Lib.uvarint_small (by omega)]; simp

/-- What is compressed becomes what came in. -/
theorem exp_comp {b : List UInt8} (hs : b.length ≤ 65536) {most : Int} (hm : (b.length : Int) ≤ most) : exp (comp b) most = (0, b) := by
  unfold exp comp
  rw [dec_uv _ _ (by omega), if_neg (by simp)]
  simp only
  rw [if_neg (by omega), List.drop_left]
  exact lay_body hs
theorem exp_comp_less {b : List UInt8} (hs : b.length ≤ 65536) {most : Int} (hm : most < (b.length : Int)) : exp (comp b) most = (4, []) := by
  unfold exp comp
  rw [dec_uv _ _ (by omega), if_neg (by simp)]
  simp only
  rw [if_pos (by omega)]
theorem plainP_length {b : List UInt8} (hs : b.length ≤ 65536) : (plainP b).length ≤ b.length + 3 := by
  unfold plainP
  by_cases h : b = []
  · rw [if_pos h]; simp
  · rw [if_neg h, List.length_append]
    have := uv3 (2 * b.length) (by omega)
    omega
theorem body_le {b : List UInt8} (hs : b.length ≤ 65536) : (body b).length ≤ b.length + 3 := by
  have := plainP_length hs
  unfold body
  by_cases h : (plainP b).length < (parts b b.length 0 0 []).length
  · rw [if_pos h]; exact this
  · rw [if_neg h]; omega
theorem comp_length {b : List UInt8} (hs : b.length ≤ 65536) : (comp b).length ≤ b.length + 6 ∧ 0 < (comp b).length := by
  have h1 := body_le hs
  have h2 := uv3 b.length (by omega)
  have h3 := Lib.uvarint_pos b.length
  unfold comp
  rw [List.length_append]
  omega

/-! ### the last byte gone -/
/-- A number that is read is there: the bytes are its form, and others. -/
theorem dec_form {l : List UInt8} {n k : Nat} (h : dec 0 0 l = (n, k, 0)) : ∃ r, l = Lib.uvarint n ++ r ∧ k = (Lib.uvarint n).length ∧ n < 18446744073709551616 := by
  obtain ⟨x, h1, h2, h3, h4, h5, h6⟩ := dec_back l 0 0 n k (by omega) (by decide) h
  obtain rfl : n = x := by omega
  refine ⟨l.drop (Lib.uvarint n).length, ?_, by omega, h6⟩
  conv => lhs; rw [← List.take_append_drop (Lib.uvarint n).length l, h4]
theorem dec_cut {l : List UInt8} {n k m : Nat} (h : dec 0 0 l = (n, k, 0)) (hm : k ≤ m) : dec 0 0 (l.take m) = (n, k, 0) := by
  obtain ⟨r, rfl, rfl, hn⟩ := dec_form h
  rw [List.take_append, List.take_of_length_le hm, dec_uv _ _ hn]
theorem dec_torn {l : List UInt8} {n k m : Nat} (h : dec 0 0 l = (n, k, 0)) (hm : m < k) : dec 0 0 (l.take m) = (0, 0, 5) := by
  obtain ⟨r, rfl, rfl, hn⟩ := dec_form h
  rw [List.take_append, show m - (Lib.uvarint n).length = 0 by omega, List.take_zero, List.append_nil]
  exact dec_short 0 0 n m (by simpa using hn) (by omega) hm

/-- A part is laid of its own bytes alone; with the last of them gone it is refused. -/
theorem part_cut {size : Nat} {rest laid l : List UInt8} {k m : Nat} (h : LaySpec.part size rest laid = (0, l, k)) (hm : k ≤ m) (hr : m ≤ rest.length) : LaySpec.part size (rest.take m) laid = (0, l, k) := by
  obtain ⟨p, k1, e, hd⟩ : ∃ p k e, dec 0 0 rest = (p, k, e) := ⟨_, _, _, rfl⟩
  by_cases he : e = 0
  · subst he
    by_cases hf : p / 2 = 0 ∨ (p % 2 = 1 ∧ p / 2 < 4) ∨ size < laid.length + p / 2
    · rw [part_form hd hf] at h; cases h
    by_cases h2 : p % 2 = 0
    · by_cases hs : rest.length - k1 < p / 2
      · rw [part_short hd hf h2 hs] at h; cases h
      · rw [part_plain hd hf h2 hs] at h
        simp only [Prod.mk.injEq, true_and] at h
        obtain ⟨rfl, rfl⟩ := h
        have hc := dec_cut (m := m) hd (by omega)
        rw [part_plain hc hf h2 (by simp; omega)]
        simp only [Prod.mk.injEq, true_and, and_true, List.append_cancel_left_eq]
        rw [List.drop_take, List.take_take, Nat.min_eq_left (by omega)]
    · obtain ⟨d, k2, e2, hd2⟩ : ∃ p' k' e', dec 0 0 (rest.drop k1) = (p', k', e') := ⟨_, _, _, rfl⟩
      by_cases he2 : e2 = 0
      · subst he2
        by_cases hq : d = 0 ∨ laid.length < d
        · rw [part_far hd hf (by omega) hd2 hq] at h; cases h
        · rw [part_echo hd hf (by omega) hd2 hq] at h
          simp only [Prod.mk.injEq, true_and] at h
          obtain ⟨rfl, rfl⟩ := h
          have hc := dec_cut (m := m) hd (by omega)
          have hc2 := dec_cut (m := m - k1) hd2 (by omega)
          rw [← List.drop_take] at hc2
          rw [part_echo hc hf (by omega) hc2 hq]
      · rw [part_err2 hd hf (by omega) hd2 he2] at h
        simp only [Prod.mk.injEq] at h
        exact absurd h.1 he2
  · rw [LaySpec.part_err hd he] at h
    simp only [Prod.mk.injEq] at h
    exact absurd h.1 he
theorem part_torn {size : Nat} {rest laid l : List UInt8} {k : Nat} (h : LaySpec.part size rest laid = (0, l, k + 1)) : (LaySpec.part size (rest.take k) laid).1 ≠ 0 := by
  obtain ⟨p, k1, e, hd⟩ : ∃ p k e, dec 0 0 rest = (p, k, e) := ⟨_, _, _, rfl⟩
  have hkr := (part_takes (size := size) (rest := rest) (laid := laid) (by rw [h])).2.1
  rw [h] at hkr
  simp only at hkr
  by_cases he : e = 0
  · subst he
    have ht := dec_takes hd
    by_cases hf : p / 2 = 0 ∨ (p % 2 = 1 ∧ p / 2 < 4) ∨ size < laid.length + p / 2
    · rw [part_form hd hf] at h; cases h
    by_cases h2 : p % 2 = 0
    · by_cases hs : rest.length - k1 < p / 2
      · rw [part_short hd hf h2 hs] at h; cases h
      · rw [part_plain hd hf h2 hs] at h
        simp only [Prod.mk.injEq, true_and] at h
        obtain ⟨rfl, hk⟩ := h
        have hc := dec_cut (m := k) hd (by omega)
        rw [part_short hc hf h2 (by simp; omega)]
        simp
    · obtain ⟨d, k2, e2, hd2⟩ : ∃ p' k' e', dec 0 0 (rest.drop k1) = (p', k', e') := ⟨_, _, _, rfl⟩
      by_cases he2 : e2 = 0
      · subst he2
        have ht2 := dec_takes hd2
        by_cases hq : d = 0 ∨ laid.length < d
        · rw [part_far hd hf (by omega) hd2 hq] at h; cases h
        · rw [part_echo hd hf (by omega) hd2 hq] at h
          simp only [Prod.mk.injEq, true_and] at h
          obtain ⟨rfl, hk⟩ := h
          have hc := dec_cut (m := k) hd (by omega)
          have hc2 := dec_torn (m := k - k1) hd2 (by omega)
          rw [← List.drop_take] at hc2
          rw [part_err2 hc hf (by omega) hc2 (by omega)]
          simp
      · rw [part_err2 hd hf (by omega) hd2 he2] at h
        simp only [Prod.mk.injEq] at h
        exact absurd h.1 he2
  · rw [LaySpec.part_err hd he] at h
    simp only [Prod.mk.injEq] at h
    exact absurd h.1 he

theorem lay_torn {size : Nat} : ∀ (m : Nat) (rest laid : List UInt8), rest.length = m + 1 → (lay size rest laid).1 = 0 → (lay size (rest.take m) laid).1 ≠ 0 := by
  intro m
  induction m using Nat.strongRecOn with
  | _ m ih =>
    intro rest laid hlen h
    have hne : rest ≠ [] := by intro e; subst e; simp at hlen
    obtain ⟨err, l, k, hp⟩ : ∃ err l k, LaySpec.part size rest laid = (err, l, k) := ⟨_, _, _, rfl⟩
    by_cases he : err = 0
    · subst he
      have ht := part_takes (size := size) (rest := rest) (laid := laid) (by rw [hp])
      rw [hp] at ht
      simp only at ht
      rw [lay_ok hne hp] at h
      by_cases hk : k = m + 1
      · subst hk
        have hpt := part_torn hp
        by_cases hm0 : m = 0
        · subst hm0
          rw [List.take_zero] at hpt ⊢
          rw [lay_nil]
          rw [if_pos (by omega)]
          simp
        · have hne2 : rest.take m ≠ [] := by
            intro e
            have := congrArg List.length e
            rw [List.length_take, List.length_nil] at this
            omega
          rw [lay_cons hne2, if_pos hpt]
          exact hpt
      · have hkm : k ≤ m := by omega
        have hne2 : rest.take m ≠ [] := by
          intro e
          have := congrArg List.length e
          rw [List.length_take, List.length_nil] at this
          omega
        rw [lay_ok hne2 (part_cut hp hkm (by omega)), List.drop_take]
        exact ih (m - k) (by omega) (rest.drop k) l (by simp; omega) h
    · rw [lay_err hne hp he] at h
      exact absurd h he
/-- A block with its last byte gone is refused. -/
theorem exp_torn {b : List UInt8} (hs : b.length ≤ 65536) {most : Int} (hm : (b.length : Int) ≤ most) : (exp ((comp b).take ((comp b).length - 1)) most).1 ≠ 0 := by
  have hd := dec_uv b.length (body b) (by omega)
  have hp := Lib.uvarint_pos b.length
  have hl := lay_body hs
  unfold exp comp
  rw [List.length_append]
  by_cases h0 : (body b).length = 0
  · rw [dec_torn hd (by omega)]
    simp
  · rw [dec_cut hd (by omega), if_neg (by simp)]
    simp only
    rw [if_neg (by omega), List.drop_take, List.drop_left]
    obtain ⟨m, hm'⟩ : ∃ m, (body b).length = m + 1 := ⟨(body b).length - 1, by omega⟩
    rw [show (Lib.uvarint b.length).length + (body b).length - 1 - (Lib.uvarint b.length).length = m by omega]
    exact lay_torn m (body b) [] hm' (by rw [hl])

/-! ### bytes that are all the same -/
theorem four_same (k : Nat) (x : UInt8) {i : Nat} (h : i + 4 ≤ k) : four (List.replicate k x) i = List.replicate 4 x := by
  unfold four
  rw [List.drop_replicate, List.take_replicate, Nat.min_eq_left (by omega)]
theorem ext_run (k : Nat) (x : UInt8) : ∀ (j n : Nat), 1 + n + j = k → ext (List.replicate k x) 0 1 j n = n + j := by
  intro j
  induction j with
  | zero => intro n h; rfl
  | succ j ih =>
    intro n h
    rw [ext, if_pos ⟨by simp; omega, by simp [List.getD, List.getElem?_replicate]; rw [if_pos (by omega), if_pos (by omega)]⟩, ih (n + 1) (by omega)]
    omega
theorem echo_run (k : Nat) (x : UInt8) (h : 64 ≤ k) : echo (List.replicate k x) 1 = (k - 1, Lib.uvarint (2 * (k - 1) + 1) ++ Lib.uvarint 1) := by
  have hf : findAt (List.replicate k x) 1 = some 0 := by
    unfold findAt
    rw [if_pos (by simp; omega), last, if_pos ⟨by simp; omega, by rw [four_same k x (by omega), four_same k x (by omega)]⟩]
  rw [echo_some hf]
  have := ext_run k x (k - 5) 4 (by omega)
  rw [List.length_replicate, this]
  rw [show 4 + (k - 5) = k - 1 by omega]
theorem comp_run (k : Nat) (x : UInt8) (h : 64 ≤ k) (hk : k ≤ 65536) : (comp (List.replicate k x)).length ≤ 16 := by
  have e0 : echo (List.replicate k x) 0 = (0, []) := echo_none (by unfold findAt; rw [if_pos (by simp; omega)]; rfl)
  have e1 := echo_run k x h
  have u1 := uv3 (2 * (k - 1) + 1) (by omega)
  have u2 := uv3 k (by omega)
  have u3 : (Lib.uvarint 1).length = 1 := by rw [Lib.uvarint_small (by omega)]; rfl
  obtain ⟨m, hm⟩ : ∃ m, k = m + 3 := ⟨k - 3, by omega⟩
  have hp : (parts (List.replicate k x) k 0 0 []).length ≤ 10 := by
    have h3 : parts (List.replicate k x) k 0 0 [] = parts (List.replicate k x) (m + 1 + 1 + 1) 0 0 [] := by rw [← hm]
    rw [h3, parts, if_pos (by simp; omega), e0, if_pos (by simp), parts, if_pos (by simp; omega), e1, if_neg (by simp [u3]; omega)]
    rw [show 0 + 1 + (k - 1) = k by omega, parts, if_neg (by simp)]
    have h4 : plainP ((List.replicate k x).drop k) = [] := by simp [plainP]
    have h5 : (plainP (((List.replicate k x).take (0 + 1)).drop 0)).length ≤ 2 := by
      obtain ⟨j, rfl⟩ : ∃ j, k = j + 1 := ⟨k - 1, by omega⟩
      simp [plainP, List.replicate_succ, Lib.uvarint_small]
    rw [h4, List.append_nil, List.nil_append, List.length_append, List.length_append, u3]
    omega
  have hb : (body (List.replicate k x)).length ≤ 10 := by
    unfold body
    rw [List.length_replicate]
    by_cases h5 : (plainP (List.replicate k x)).length < (parts (List.replicate k x) k 0 0 []).length
    · rw [if_pos h5]; omega
    · rw [if_neg h5]; exact hp
  unfold comp
  rw [List.length_append, List.length_replicate]
  omega
end Go.Proofs.Ytifndcjjlhjgiaa.CompSpec
