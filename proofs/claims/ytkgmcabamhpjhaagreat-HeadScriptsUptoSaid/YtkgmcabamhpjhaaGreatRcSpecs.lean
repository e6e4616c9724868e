/- Plain: records as bytes: what is written, and how bytes are read; each the other turned round; each shorter beginning is too short. No conditions. · Plain: batches of records as bytes: what is written, and how bytes are read; each the other turned round; each shorter beginning is too short, one byte more is refused; the order of records. No conditions. · Lists of records in memory: four cells each, the labels in rows of their own. Of no program but for its types. No conditions. -/
import Derived.Test.YtkgmcabamhpjhaaGreatBase
import Derived.Test.YtkgmcabamhpjhaaGreatLbSpecs
namespace Go.Proofs.YtkgmcabamhpjhaaGreat.RcSpec
open Go UtSpec Less LbSpec

structure Rec where
  time : Int
  seq : Nat
  labels : List Lab
  line : List UInt8
def zigN (n : Int) : Nat := if n < 0 then (-2 * n - 1).toNat else (2 * n).toNat
def zagN (u : Nat) : Int := if u % 2 = 0 then (u / 2 : Nat) else -((u / 2 : Nat) : Int) - 1
theorem zag_zigN (n : Int) : zagN (zigN n) = n := by unfold zagN zigN; split <;> split <;> omega
theorem zig_zagN (u : Nat) : zigN (zagN u) = u := by unfold zagN zigN; split <;> split <;> omega
def Time64 (t : Int) : Prop := -9223372036854775808 ≤ t ∧ t ≤ 9223372036854775807
theorem zig64 {t : Int} (h : Time64 t) : zigN t < 18446744073709551616 := by unfold Time64 at h; unfold zigN; split <;> omega
theorem zag64 {u : Nat} (h : u < 18446744073709551616) : Time64 (zagN u) := by unfold Time64 zagN; split <;> omega
def check (r : Rec) : Nat :=
  if (canon r.labels).1 ≠ 0 then (canon r.labels).1 else if cmp (canon r.labels).2 r.labels ≠ 0 then 6 else if 1024 < r.line.length then 4 else if vals r.line = true then 0 else 8
/-- A text as its length and its bytes; the bytes of labels; of a record. -/
def text (s : List UInt8) : List UInt8 := Lib.uvarint s.length ++ s
def putL : List Lab → List UInt8
  | [] => []
  | x :: l => text x.1 ++ (text x.2 ++ putL l)
def bytesR (r : Rec) : List UInt8 := Lib.uvarint (zigN r.time) ++ (Lib.uvarint r.seq ++ (Lib.uvarint r.labels.length ++ (putL r.labels ++ text r.line)))

/-! ### Reading: the error, what is read, what is left -/
def num (l : List UInt8) : Nat × Nat × List UInt8 := ((Plain.dec 0 0 l).2.2, (Plain.dec 0 0 l).1, l.drop (Plain.dec 0 0 l).2.1)
def txt (l : List UInt8) : Nat × List UInt8 × List UInt8 :=
  if (num l).1 ≠ 0 then ((num l).1, [], []) else if (num l).2.2.length < (num l).2.1 then (5, [], []) else (0, (num l).2.2.take (num l).2.1, (num l).2.2.drop (num l).2.1)
def labs : Nat → List UInt8 → Nat × List Lab × List UInt8
  | 0, l => (0, [], l)
  | k + 1, l =>
    if (txt l).1 ≠ 0 then ((txt l).1, [], []) else
    if (txt (txt l).2.2).1 ≠ 0 then ((txt (txt l).2.2).1, [], []) else
    if (labs k (txt (txt l).2.2).2.2).1 ≠ 0 then ((labs k (txt (txt l).2.2).2.2).1, [], []) else
    (0, ((txt l).2.1, (txt (txt l).2.2).2.1) :: (labs k (txt (txt l).2.2).2.2).2.1, (labs k (txt (txt l).2.2).2.2).2.2)
def none : Rec := ⟨0, 0, [], []⟩
def get (l : List UInt8) : Nat × Rec × List UInt8 :=
  if (num l).1 ≠ 0 then ((num l).1, none, []) else
  let l1 := (num l).2.2
  if (num l1).1 ≠ 0 then ((num l1).1, none, []) else
  let l2 := (num l1).2.2
  if (num l2).1 ≠ 0 then ((num l2).1, none, []) else
  if 16 < (num l2).2.1 then (3, none, []) else
  let q := labs (num l2).2.1 (num l2).2.2
  if q.1 ≠ 0 then (q.1, none, []) else
  if (txt q.2.2).1 ≠ 0 then ((txt q.2.2).1, none, []) else
  let r : Rec := ⟨zagN (num l).2.1, (num l1).2.1, q.2.1, (txt q.2.2).2.1⟩
  if check r ≠ 0 then (check r, none, []) else (0, r, (txt q.2.2).2.2)

/-! ### Numbers -/
theorem num_put {x : Nat} (h : x < 18446744073709551616) (r : List UInt8) : num (Lib.uvarint x ++ r) = (0, x, r) := by
  have hd := Plain.dec_uvarint 9 0 0 x r rfl (by omega) (by simpa using h) (by omega)
  unfold num
  rw [hd]
  simp
theorem num_cut {x : Nat} (h : x < 18446744073709551616) {j : Nat} (hj : j < (Lib.uvarint x).length) : (num ((Lib.uvarint x).take j)).1 = 5 := by
  unfold num
  rw [Plain.dec_short 0 0 x j (by simpa using h) (by omega) hj]
theorem num_inv {l r : List UInt8} {x : Nat} (h : num l = (0, x, r)) : l = Lib.uvarint x ++ r ∧ x < 18446744073709551616 := by
  unfold num at h
  simp only [Prod.mk.injEq] at h
  obtain ⟨h1, h2, h3⟩ := h
  obtain ⟨y, e1, e2, _, e4, _, e6⟩ := Plain.dec_back l 0 0 (Plain.dec 0 0 l).1 (Plain.dec 0 0 l).2.1 (by omega) (by decide) (by
    obtain ⟨a, b, c, e⟩ : ∃ a b c, Plain.dec 0 0 l = (a, b, c) := ⟨_, _, _, rfl⟩
    rw [e] at h1 ⊢
    simp only at h1
    rw [h1])
  have hy : y = x := by omega
  subst hy
  rw [e2, Nat.zero_add] at h3
  refine ⟨?_, by omega⟩
  conv => lhs; rw [← List.take_append_drop (Lib.uvarint y).length l, e4, h3]
theorem num_len {l : List UInt8} (_h : (num l).1 = 0) : (num l).2.2.length ≤ l.length := by unfold num; simp

/-! ### Texts -/
theorem txt_put {s : List UInt8} (h : s.length < 18446744073709551616) (r : List UInt8) : txt (text s ++ r) = (0, s, r) := by
  unfold txt text
  rw [List.append_assoc, num_put h]
  simp
theorem take_app {a b : List UInt8} {j : Nat} : (a ++ b).take j = if j < a.length then a.take j else a ++ b.take (j - a.length) := by
  split
  · rename_i h
    rw [List.take_append_of_le_length (by omega)]
  · rename_i h
    rw [List.take_append, List.take_of_length_le (by omega)]
theorem txt_cut {s : List UInt8} (h : s.length < 18446744073709551616) {j : Nat} (hj : j < (text s).length) : (txt ((text s).take j)).1 = 5 := by
  unfold text at hj ⊢
  rw [take_app]
  split
  · rename_i h1
    have h2 := num_cut h h1
    unfold txt
    rw [if_pos (by rw [h2]; decide)]
    exact h2
  · rename_i h1
    unfold txt
    rw [num_put h]
    simp only []
    rw [if_neg (by decide), if_pos]
    rw [List.length_append] at hj
    rw [List.length_take]
    omega
theorem txt_inv {l s r : List UInt8} (h : txt l = (0, s, r)) : l = text s ++ r ∧ s.length < 18446744073709551616 := by
  unfold txt at h
  split at h
  · rename_i h1
    simp only [Prod.mk.injEq] at h
    exact absurd h.1 h1
  · rename_i h1
    split at h
    · simp at h
    · rename_i h2
      obtain ⟨n, r1, hn⟩ : ∃ n r1, num l = (0, n, r1) := ⟨(num l).2.1, (num l).2.2, by
        have : (num l).1 = 0 := by omega
        rw [← this]⟩
      rw [hn] at h h2
      simp only [Prod.mk.injEq, true_and] at h
      simp only at h2
      obtain ⟨rfl, rfl⟩ := h
      obtain ⟨hl, hx⟩ := num_inv hn
      have hlen : (r1.take n).length = n := by rw [List.length_take]; omega
      refine ⟨?_, by omega⟩
      unfold text
      rw [hlen, List.append_assoc, List.take_append_drop]
      exact hl

/-! ### Labels -/
def Len (l : List Lab) : Prop := ∀ x ∈ l, x.1.length < 18446744073709551616 ∧ x.2.length < 18446744073709551616
theorem labs_put : ∀ {l : List Lab}, Len l → ∀ r, labs l.length (putL l ++ r) = (0, l, r)
  | [], _, r => rfl
  | x :: l, h, r => by
    have h1 := (h x (by simp)).1
    have h2 := (h x (by simp)).2
    have ih := labs_put (l := l) (fun y hy => h y (by simp [hy])) r
    have e1 : txt (putL (x :: l) ++ r) = (0, x.1, text x.2 ++ (putL l ++ r)) := by
      rw [putL, List.append_assoc, List.append_assoc]
      exact txt_put h1 _
    rw [List.length_cons, labs, e1]
    simp only []
    rw [txt_put h2]
    simp only []
    rw [ih]
    simp
theorem labs_cut : ∀ {l : List Lab}, Len l → ∀ {j : Nat}, j < (putL l).length → (labs l.length ((putL l).take j)).1 = 5
  | [], _, j, hj => by simp [putL] at hj
  | x :: l, h, j, hj => by
    have h1 := (h x (by simp)).1
    have h2 := (h x (by simp)).2
    rw [putL] at hj ⊢
    rw [List.length_cons, labs, take_app]
    split
    · rename_i c1
      have e1 := txt_cut h1 c1
      rw [if_pos (by rw [e1]; decide)]
      exact e1
    · rename_i c1
      rw [txt_put h1]
      simp only []
      rw [if_neg (by decide), take_app]
      split
      · rename_i c2
        have e2 := txt_cut h2 c2
        rw [if_pos (by rw [e2]; decide)]
        exact e2
      · rename_i c2
        rw [txt_put h2]
        simp only []
        rw [if_neg (by decide)]
        have e3 := labs_cut (l := l) (fun y hy => h y (by simp [hy])) (j := j - (text x.1).length - (text x.2).length) (by
          rw [List.length_append, List.length_append] at hj
          omega)
        rw [if_pos (by rw [e3]; decide)]
        exact e3
theorem labs_inv : ∀ {k : Nat} {l : List UInt8} {x : List Lab} {r : List UInt8}, labs k l = (0, x, r) → l = putL x ++ r ∧ x.length = k ∧ Len x
  | 0, l, x, r, h => by
    simp [labs] at h
    obtain ⟨rfl, rfl⟩ := h
    exact ⟨rfl, rfl, fun y hy => by cases hy⟩
  | k + 1, l, x, r, h => by
    rw [labs] at h
    split at h
    · rename_i c; simp at h; exact absurd h.1 c
    · rename_i c1
      split at h
      · rename_i c; simp at h; exact absurd h.1 c
      · rename_i c2
        split at h
        · rename_i c; simp at h; exact absurd h.1 c
        · rename_i c3
          simp only [Prod.mk.injEq, true_and] at h
          obtain ⟨rfl, rfl⟩ := h
          have e1 : txt l = (0, (txt l).2.1, (txt l).2.2) := by rw [← (show (txt l).1 = 0 by omega)]
          have e2 : txt (txt l).2.2 = (0, (txt (txt l).2.2).2.1, (txt (txt l).2.2).2.2) := by conv => lhs; rw [show txt (txt l).2.2 = ((txt (txt l).2.2).1, (txt (txt l).2.2).2.1, (txt (txt l).2.2).2.2) from rfl, show (txt (txt l).2.2).1 = 0 by omega]
          obtain ⟨i1, l1⟩ := txt_inv e1
          obtain ⟨i2, l2⟩ := txt_inv e2
          generalize hq : txt (txt l).2.2 = q at *
          have e3 : labs k q.2.2 = (0, (labs k q.2.2).2.1, (labs k q.2.2).2.2) := by conv => lhs; rw [show labs k q.2.2 = ((labs k q.2.2).1, (labs k q.2.2).2.1, (labs k q.2.2).2.2) from rfl, show (labs k q.2.2).1 = 0 by omega]
          obtain ⟨i3, n3, l3⟩ := labs_inv e3
          refine ⟨?_, by simp [n3], fun y hy => ?_⟩
          · rw [putL, List.append_assoc, List.append_assoc, ← i3, ← i2]
            exact i1
          · rcases List.mem_cons.1 hy with rfl | hy
            · exact ⟨l1, l2⟩
            · exact l3 y hy

/-! ### Records -/
theorem nameOk_len {n : List UInt8} (h : nameOk n = true) : n.length ≤ 32 := by
  cases n with
  | nil => simp
  | cons c t =>
    unfold nameOk at h
    simp only [Bool.and_eq_true, decide_eq_true_eq] at h
    rw [List.length_cons]
    omega
theorem lerr_len {x : Lab} (h : lerr x = 0) : x.1.length ≤ 32 ∧ x.2.length ≤ 256 := by
  unfold lerr at h
  split at h
  · rename_i hn
    refine ⟨nameOk_len hn, ?_⟩
    split at h
    · cases h
    · omega
  · cases h
/-- A record that may be. -/
structure Ok (r : Rec) : Prop where
  may : May r.labels
  asc : Asc r.labels
  line : r.line.length ≤ 1024
  utf : vals r.line = true
theorem check_ok {r : Rec} : check r = 0 ↔ Ok r := by
  unfold check
  constructor
  · intro h
    split at h
    · rename_i c; exact absurd h c
    · rename_i c1
      have hm := may_iff.2 (show (canon r.labels).1 = 0 by omega)
      split at h
      · cases h
      · rename_i c2
        split at h
        · cases h
        · rename_i c3
          split at h
          · rename_i c4
            have e : (canon r.labels).2 = r.labels := cmp_eq.1 (by omega)
            have e2 : (canon r.labels).2 = sort r.labels := by rw [canon_may hm]
            refine ⟨hm, ?_, by omega, c4⟩
            rw [← e, e2]
            exact (may_sort hm).2
          · cases h
  · intro h
    rw [canon_self h.may h.asc]
    simp only [ne_eq, not_true_eq_false, if_false, cmp_self, h.utf, if_true]
    rw [if_neg (by have := h.line; omega)]
theorem Ok.len {r : Rec} (h : Ok r) : Len r.labels := fun x hx => by
  have := lerr_len (h.may.each x hx)
  omega
/-- What 64 bits hold. -/
def Fits (r : Rec) : Prop := Time64 r.time ∧ r.seq < 18446744073709551616
theorem get_put {r : Rec} (h : Ok r) (hf : Fits r) (l : List UInt8) : get (bytesR r ++ l) = (0, r, l) := by
  obtain ⟨ht, hs⟩ := hf
  have hn : r.labels.length < 18446744073709551616 := by have := h.may.few; omega
  have hl : r.line.length < 18446744073709551616 := by have := h.line; omega
  unfold get bytesR
  simp only [List.append_assoc]
  rw [num_put (zig64 ht)]
  simp only []
  rw [num_put hs]
  simp only []
  rw [num_put hn]
  simp only []
  rw [labs_put h.len]
  simp only []
  rw [txt_put hl]
  simp only []
  rw [if_neg (by decide), if_neg (by decide), if_neg (by decide), if_neg (by have := h.may.few; omega), if_neg (by decide), if_neg (by decide), zag_zigN]
  rw [if_neg]
  exact fun hne => hne (check_ok.2 h)
theorem get_cut {r : Rec} (h : Ok r) (hf : Fits r) {j : Nat} (hj : j < (bytesR r).length) : (get ((bytesR r).take j)).1 = 5 := by
  obtain ⟨ht, hs⟩ := hf
  have hn : r.labels.length < 18446744073709551616 := by have := h.may.few; omega
  have hl : r.line.length < 18446744073709551616 := by have := h.line; omega
  unfold bytesR at hj ⊢
  simp only [List.length_append] at hj
  unfold get
  rw [take_app]
  split
  · rename_i c
    have e := num_cut (zig64 ht) c
    rw [if_pos (by rw [e]; decide)]
    exact e
  · rename_i c1
    rw [num_put (zig64 ht)]
    simp only []
    rw [if_neg (by decide), take_app]
    split
    · rename_i c
      have e := num_cut hs c
      rw [if_pos (by rw [e]; decide)]
      exact e
    · rename_i c2
      rw [num_put hs]
      simp only []
      rw [if_neg (by decide), take_app]
      split
      · rename_i c
        have e := num_cut hn c
        rw [if_pos (by rw [e]; decide)]
        exact e
      · rename_i c3
        rw [num_put hn]
        simp only []
        rw [if_neg (by decide), if_neg (by have := h.may.few; omega), take_app]
        split
        · rename_i c
          have e := labs_cut h.len c
          rw [if_pos (by rw [e]; decide)]
          exact e
        · rename_i c4
          rw [labs_put h.len]
          simp only []
          rw [if_neg (by decide)]
          have e := txt_cut hl (j := j - (Lib.uvarint (zigN r.time)).length - (Lib.uvarint r.seq).length - (Lib.uvarint r.labels.length).length - (putL r.labels).length) (by omega)
          rw [if_pos (by rw [e]; decide)]
          exact e
theorem triple {α β : Type} {q : Nat × α × β} (h : q.1 = 0) : q = (0, q.2.1, q.2.2) := by
  obtain ⟨a, b, c⟩ := q
  simp only at h
  subst h
  rfl
theorem get_inv {l rest : List UInt8} {r : Rec} (h : get l = (0, r, rest)) : l = bytesR r ++ rest ∧ Ok r ∧ Fits r := by
  unfold get at h
  simp only [] at h
  split at h
  · rename_i c; simp at h; exact absurd h.1 c
  · rename_i c1
    split at h
    · rename_i c; simp at h; exact absurd h.1 c
    · rename_i c2
      split at h
      · rename_i c; simp at h; exact absurd h.1 c
      · rename_i c3
        split at h
        · simp at h
        · rename_i c4
          split at h
          · rename_i c; simp at h; exact absurd h.1 c
          · rename_i c5
            split at h
            · rename_i c; simp at h; exact absurd h.1 c
            · rename_i c6
              split at h
              · rename_i c; simp at h; exact absurd h.1 c
              · rename_i c7
                simp only [Prod.mk.injEq, true_and] at h
                obtain ⟨rfl, rfl⟩ := h
                have e1 := num_inv (triple (q := num l) (by omega))
                have e2 := num_inv (triple (q := num (num l).2.2) (by omega))
                have e3 := num_inv (triple (q := num (num (num l).2.2).2.2) (by omega))
                generalize num (num l).2.2 = n1 at *
                generalize hn0 : num l = n0 at *
                generalize num n1.2.2 = n2 at *
                have e4 := labs_inv (triple (q := labs n2.2.1 n2.2.2) (by omega))
                generalize labs n2.2.1 n2.2.2 = q at *
                have e5 := txt_inv (triple (q := txt q.2.2) (by omega))
                generalize txt q.2.2 = t at *
                refine ⟨?_, check_ok.1 (by omega), zag64 e1.2, e2.2⟩
                unfold bytesR
                simp only [zig_zagN, e4.2.1, List.append_assoc]
                rw [← e5.1, ← e4.1, ← e3.1, ← e2.1]
                exact e1.1
end Go.Proofs.YtkgmcabamhpjhaaGreat.RcSpec

namespace Go.Proofs.YtkgmcabamhpjhaaGreat.RcAll
open Go UtSpec Less LbSpec RcSpec

def many : List Rec → List UInt8
  | [] => []
  | r :: l => bytesR r ++ many l
def batch (l : List Rec) : List UInt8 := Lib.uvarint l.length ++ many l
def firstBad : List Rec → Nat
  | [] => 0
  | r :: l => if check r = 0 then firstBad l else check r
def put (r : Rec) : Nat × List UInt8 := if check r = 0 then (0, bytesR r) else (check r, [])
def putAll (l : List Rec) : Nat × List UInt8 := if 65536 < l.length then (3, []) else if firstBad l ≠ 0 then (firstBad l, []) else (0, batch l)
def recs : Nat → List UInt8 → Nat × List Rec × List UInt8
  | 0, l => (0, [], l)
  | k + 1, l =>
    if (get l).1 ≠ 0 then ((get l).1, [], []) else
    if (recs k (get l).2.2).1 ≠ 0 then ((recs k (get l).2.2).1, [], []) else
    (0, (get l).2.1 :: (recs k (get l).2.2).2.1, (recs k (get l).2.2).2.2)
def getAll (b : List UInt8) : Nat × List Rec :=
  if (num b).1 ≠ 0 then ((num b).1, []) else if 65536 < (num b).2.1 then (3, []) else
  if (recs (num b).2.1 (num b).2.2).1 ≠ 0 then ((recs (num b).2.1 (num b).2.2).1, []) else
  if (recs (num b).2.1 (num b).2.2).2.2 ≠ [] then (6, []) else (0, (recs (num b).2.1 (num b).2.2).2.1)

/-- A batch that may be. -/
structure All (l : List Rec) : Prop where
  few : l.length ≤ 65536
  ok : ∀ r ∈ l, Ok r
def Fit (l : List Rec) : Prop := ∀ r ∈ l, Fits r
theorem firstBad_zero {l : List Rec} : firstBad l = 0 ↔ ∀ r ∈ l, Ok r := by
  induction l with
  | nil => simp [firstBad]
  | cons r l ih =>
    rw [firstBad]
    by_cases h : check r = 0
    · rw [if_pos h, ih]
      simp [check_ok.1 h]
    · rw [if_neg h]
      constructor
      · intro e; exact absurd e h
      · intro e; exact absurd (check_ok.2 (e r (by simp))) h
theorem putAll_ok {l : List Rec} (h : All l) : putAll l = (0, batch l) := by
  unfold putAll
  rw [if_neg (by have := h.few; omega), if_neg (by rw [firstBad_zero.2 h.ok]; decide)]
theorem putAll_not {l : List Rec} (h : ¬ All l) : (putAll l).1 ≠ 0 ∧ (putAll l).2 = [] := by
  unfold putAll
  split
  · simp
  · rename_i h1
    split
    · rename_i h2
      exact ⟨h2, rfl⟩
    · rename_i h2
      exact absurd ⟨by omega, firstBad_zero.1 (by omega)⟩ h
theorem recs_put : ∀ {l : List Rec}, (∀ r ∈ l, Ok r) → Fit l → ∀ x, recs l.length (many l ++ x) = (0, l, x)
  | [], _, _, x => rfl
  | r :: l, h, hf, x => by
    rw [List.length_cons, recs, many, List.append_assoc, get_put (h r (by simp)) (hf r (by simp))]
    simp only []
    rw [recs_put (l := l) (fun y hy => h y (by simp [hy])) (fun y hy => hf y (by simp [hy]))]
    simp
theorem recs_cut : ∀ {l : List Rec}, (∀ r ∈ l, Ok r) → Fit l → ∀ {j : Nat}, j < (many l).length → (recs l.length ((many l).take j)).1 = 5
  | [], _, _, j, hj => by simp [many] at hj
  | r :: l, h, hf, j, hj => by
    rw [many] at hj ⊢
    rw [List.length_cons, recs, take_app]
    split
    · rename_i c
      have e := get_cut (h r (by simp)) (hf r (by simp)) c
      rw [if_pos (by rw [e]; decide)]
      exact e
    · rename_i c
      rw [get_put (h r (by simp)) (hf r (by simp))]
      simp only []
      rw [if_neg (by decide)]
      have e := recs_cut (l := l) (fun y hy => h y (by simp [hy])) (fun y hy => hf y (by simp [hy])) (j := j - (bytesR r).length) (by rw [List.length_append] at hj; omega)
      rw [if_pos (by rw [e]; decide)]
      exact e
theorem recs_inv : ∀ {k : Nat} {l : List UInt8} {x : List Rec} {t : List UInt8}, recs k l = (0, x, t) → l = many x ++ t ∧ x.length = k ∧ (∀ r ∈ x, Ok r) ∧ Fit x
  | 0, l, x, t, h => by
    simp [recs] at h
    obtain ⟨rfl, rfl⟩ := h
    exact ⟨rfl, rfl, (by intro r hr; cases hr), (by intro r hr; cases hr)⟩
  | k + 1, l, x, t, h => by
    rw [recs] at h
    split at h
    · rename_i c; simp at h; exact absurd h.1 c
    · rename_i c1
      split at h
      · rename_i c; simp at h; exact absurd h.1 c
      · rename_i c2
        simp only [Prod.mk.injEq, true_and] at h
        obtain ⟨rfl, rfl⟩ := h
        obtain ⟨i1, o1, f1⟩ := get_inv (triple (q := get l) (by omega))
        generalize get l = q at *
        obtain ⟨i2, n2, o2, f2⟩ := recs_inv (triple (q := recs k q.2.2) (by omega))
        refine ⟨?_, by simp [n2], fun y hy => ?_, fun y hy => ?_⟩
        · rw [many, List.append_assoc, ← i2]
          exact i1
        · rcases List.mem_cons.1 hy with rfl | hy
          · exact o1
          · exact o2 y hy
        · rcases List.mem_cons.1 hy with rfl | hy
          · exact f1
          · exact f2 y hy
theorem getAll_put {l : List Rec} (h : All l) (hf : Fit l) : getAll (batch l) = (0, l) := by
  have hn : l.length < 18446744073709551616 := by have := h.few; omega
  have e := recs_put h.ok hf []
  rw [List.append_nil] at e
  unfold getAll batch
  rw [num_put hn]
  simp only []
  rw [if_neg (by decide), if_neg (by have := h.few; omega), e]
  simp
theorem getAll_more {l : List Rec} (h : All l) (hf : Fit l) {x : List UInt8} (hx : x ≠ []) : (getAll (batch l ++ x)).1 = 6 := by
  have hn : l.length < 18446744073709551616 := by have := h.few; omega
  unfold getAll batch
  rw [List.append_assoc, num_put hn]
  simp only []
  rw [if_neg (by decide), if_neg (by have := h.few; omega), recs_put h.ok hf]
  simp [hx]
theorem getAll_cut {l : List Rec} (h : All l) (hf : Fit l) {j : Nat} (hj : j < (batch l).length) : (getAll ((batch l).take j)).1 = 5 := by
  have hn : l.length < 18446744073709551616 := by have := h.few; omega
  unfold batch at hj ⊢
  unfold getAll
  rw [take_app]
  split
  · rename_i c
    have e := num_cut hn c
    rw [if_pos (by rw [e]; decide)]
    exact e
  · rename_i c
    rw [num_put hn]
    simp only []
    rw [if_neg (by decide), if_neg (by have := h.few; omega)]
    have e := recs_cut h.ok hf (j := j - (Lib.uvarint l.length).length) (by rw [List.length_append] at hj; omega)
    rw [if_pos (by rw [e]; decide)]
    exact e
theorem getAll_inv {b : List UInt8} {l : List Rec} (h : getAll b = (0, l)) : b = batch l ∧ All l ∧ Fit l := by
  unfold getAll at h
  split at h
  · rename_i c; simp at h; exact absurd h.1 c
  · rename_i c1
    split at h
    · simp at h
    · rename_i c2
      split at h
      · rename_i c; simp at h; exact absurd h.1 c
      · rename_i c3
        split at h
        · simp at h
        · rename_i c4
          simp only [Prod.mk.injEq, true_and] at h
          subst h
          obtain ⟨i1, f1⟩ := num_inv (triple (q := num b) (by omega))
          generalize num b = q at *
          obtain ⟨i2, n2, o2, f2⟩ := recs_inv (triple (q := recs q.2.1 q.2.2) (by omega))
          have c5 : (recs q.2.1 q.2.2).2.2 = [] := by simpa using c4
          rw [c5, List.append_nil] at i2
          refine ⟨?_, ⟨by omega, o2⟩, f2⟩
          unfold batch
          rw [n2, ← i2]
          exact i1
theorem getAll_not {b : List UInt8} (h : (getAll b).1 ≠ 0) : (getAll b).2 = [] := by
  unfold getAll at h ⊢
  repeat' split
  all_goals first | rfl | (simp_all)
/-! ### The order -/
def cmpR (a b : Rec) : Int := if a.time < b.time ∨ (a.time = b.time ∧ a.seq < b.seq) then -1 else if a.time = b.time ∧ a.seq = b.seq then 0 else 1
theorem cmpR_turn (a b : Rec) : cmpR b a = - cmpR a b := by
  unfold cmpR
  split <;> split <;> (try split) <;> (try split) <;> omega
theorem cmpR_le {a b c : Rec} (h : cmpR a b ≤ 0) (h' : cmpR b c ≤ 0) : cmpR a c ≤ 0 := by
  unfold cmpR at *
  repeat' split at h
  all_goals repeat' split at h'
  all_goals repeat' split
  all_goals omega
theorem cmpR_ge {a b c : Rec} (h : 0 ≤ cmpR a b) (h' : 0 ≤ cmpR b c) : 0 ≤ cmpR a c := by
  have h1 := cmpR_turn a b
  have h2 := cmpR_turn b c
  have h3 := cmpR_turn a c
  have := cmpR_le (a := c) (b := b) (c := a) (by omega) (by omega)
  omega
end Go.Proofs.YtkgmcabamhpjhaaGreat.RcAll

namespace Go.Proofs.YtkgmcabamhpjhaaGreat.RcMem
open Go Go.RowKit Words AppN Less LbSpec LbText LbMem RcSpec RcAll

/-- A slice: its address, its length, its capacity. -/
abbrev Sl := Option Addr × Nat × Nat
def slV (s : Sl) : Value := .slice s.1 s.2.1 s.2.2
/-- A record, and where its labels lie. -/
abbrev RM := Rec × Sl
def rcells (m : RM) : List Value := [.int .i64 m.1.time, .int .u64 (m.1.seq : Int), slV m.2, S8 m.1.line]
def aggR (m : RM) : Value := .agg #[.int .i64 m.1.time, .int .u64 (m.1.seq : Int), slV m.2, S8 m.1.line]
def flatR (l : List RM) : List Value := l.flatMap rcells
theorem flatR_cons (x : RM) (l : List RM) : flatR (x :: l) = .int .i64 x.1.time :: .int .u64 (x.1.seq : Int) :: slV x.2 :: S8 x.1.line :: flatR l := by simp [flatR, rcells]
theorem flatR_append (l m : List RM) : flatR (l ++ m) = flatR l ++ flatR m := by simp [flatR]
theorem flatR_one (x : RM) : flatR [x] = rcells x := by simp [flatR]
theorem flatR_len : ∀ l : List RM, (flatR l).length = l.length * 4
  | [] => rfl
  | x :: l => by rw [flatR_cons, List.length_cons, List.length_cons, List.length_cons, List.length_cons, flatR_len l, List.length_cons]; omega
theorem flatR_take : ∀ (l : List RM) (k : Nat), (flatR l).take (k * 4) = flatR (l.take k)
  | [], k => by simp [flatR]
  | x :: l, 0 => by simp [flatR]
  | x :: l, k + 1 => by
    rw [show (k + 1) * 4 = k * 4 + 1 + 1 + 1 + 1 by omega, flatR_cons, List.take_succ_cons, List.take_succ_cons, List.take_succ_cons, List.take_succ_cons, flatR_take l k, List.take_succ_cons, flatR_cons]
theorem flatR_drop : ∀ (l : List RM) (k : Nat), (flatR l).drop (k * 4) = flatR (l.drop k)
  | [], k => by simp [flatR]
  | x :: l, 0 => by simp
  | x :: l, k + 1 => by
    rw [show (k + 1) * 4 = k * 4 + 1 + 1 + 1 + 1 by omega, flatR_cons, List.drop_succ_cons, List.drop_succ_cons, List.drop_succ_cons, List.drop_succ_cons, flatR_drop l k, List.drop_succ_cons]
theorem flatR_at : ∀ {l : List RM} {k : Nat} (h : k < l.length), (flatR l)[k * 4]? = some (.int .i64 (l[k]).1.time) ∧ (flatR l)[k * 4 + 1]? = some (.int .u64 ((l[k]).1.seq : Int)) ∧ (flatR l)[k * 4 + 2]? = some (slV (l[k]).2) ∧ (flatR l)[k * 4 + 3]? = some (S8 (l[k]).1.line)
  | x :: l, 0, _ => by simp [flatR, rcells]
  | x :: l, k + 1, h => by
    have ih := flatR_at (l := l) (k := k) (by simpa using h)
    rw [show (k + 1) * 4 = k * 4 + 1 + 1 + 1 + 1 by omega, flatR_cons]
    simpa using ih
theorem rcells_ones (m : RM) : ∀ u ∈ rcells m, u.oneCell' = true := by
  intro u hu
  unfold rcells at hu
  simp at hu
  rcases hu with rfl | rfl | rfl | rfl <;> rfl
theorem flatR_ones (l : List RM) : ∀ u ∈ flatR l, u.oneCell' = true := by
  intro u hu
  obtain ⟨x, _, hx⟩ := List.mem_flatMap.1 hu
  exact rcells_ones x u hx
theorem cellsR {w : World} {b off : Nat} {l : List RM} (hc : ∀ j u, (flatR l)[j]? = some u → w.cell? ⟨b, off + j, none⟩ = some u) {k : Nat} (hk : k < l.length) :
    w.cell? ⟨b, off + k * 4, none⟩ = some (.int .i64 (l[k]).1.time) ∧ w.cell? ⟨b, off + k * 4 + 1, none⟩ = some (.int .u64 ((l[k]).1.seq : Int)) ∧ w.cell? ⟨b, off + k * 4 + 2, none⟩ = some (slV (l[k]).2) ∧ w.cell? ⟨b, off + k * 4 + 3, none⟩ = some (.string ⟨(l[k]).1.line.toArray⟩) := by
  obtain ⟨h0, h1, h2, h3⟩ := flatR_at hk
  refine ⟨hc _ _ h0, ?_, ?_, ?_⟩
  · rw [Nat.add_assoc]; exact hc _ _ h1
  · rw [Nat.add_assoc]; exact hc _ _ h2
  · rw [Nat.add_assoc]; exact hc _ _ h3
theorem info_record : (Tryz.prog.info? 47).map (fun i => (i.zero, i.size, i.bytes)) = some (some (.agg #[.int .i64 0, .int .u64 0, .slice none 0 0, .string ByteArray.empty]), 4, 56) := by kernel_rfl

/-- A record's labels lie where its cell says; its numbers are of their kinds. -/
structure Okm (w : World) (m : RM) : Prop where
  labs : Lb w m.2.1 m.2.2.1 m.2.2.2 m.1.labels
  fits : Fits m.1
theorem Okm.below {w w' : World} {m : RM} (h : Okm w m) (hb : Below w.heap.size w w') : Okm w' m :=
  ⟨⟨h.labs.1, h.labs.2.1, h.labs.2.2.1, (h.labs.2.2.2.below hb).more hb.size⟩, h.fits⟩
/-- A slice of records at A reads as ms. -/
structure Rl (w : World) (A : Option Addr) (n c : Nat) (ms : List RM) : Prop where
  len : n = ms.length
  le : n ≤ c
  cap : c ≤ maxLen
  rd : Rd w w.heap.size A (flatR ms)
  each : ∀ m ∈ ms, Okm w m
theorem Rl.below {w w' : World} {A : Option Addr} {n c : Nat} {ms : List RM} (h : Rl w A n c ms) (hb : Below w.heap.size w w') : Rl w' A n c ms :=
  ⟨h.len, h.le, h.cap, (h.rd.below hb).more hb.size, fun m hm => (h.each m hm).below hb⟩
/-- The records alone. -/
def recsOf (ms : List RM) : List Rec := ms.map Prod.fst
end Go.Proofs.YtkgmcabamhpjhaaGreat.RcMem

