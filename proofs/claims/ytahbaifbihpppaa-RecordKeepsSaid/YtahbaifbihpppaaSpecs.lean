/- Texts as values, lists of texts in memory, the order of texts byte by byte, '<' and '==' on them. Of no program but for its string type. No conditions. · Plain: UTF-8 as lists of bytes: 'dec' (the rune at a text's beginning and its bytes' number: the model's own), 'enc' (a rune's bytes), 'runes', 'cnt', 'vals', 'fold', 'small', 'word', and what the statements of layer 6 reckon with them. No conditions. · Plain: labels: names, the canonical list, the order, the text of a list and its reading; what the statements of layer 8 reckon with them. No conditions. · Plain: the text of a list of labels and its reading: each the other turned round. No conditions. · Plain facts on numbers by sevens of bits (no program in this text): 'dec' is the reading of a number out of a list of bytes, 'getA' the reading at a place; what is read is the number that was written. No conditions. · Plain: records as bytes: what is written, and how bytes are read; each the other turned round; each shorter beginning is too short. No conditions. · Plain: batches of records as bytes: what is written, and how bytes are read; each the other turned round; each shorter beginning is too short, one byte more is refused; the order of records. No conditions. -/
import Derived.Test.YtahbaifbihpppaaWords
import Derived.Test.YtahbaifbihpppaaRows
import Derived.WalkLawsBesides
import GoSem.Core.Utf8
import Derived.Lib.RuneBytes
import Derived.Lib.Strings
import Derived.Lib.Varint
import Derived.Lib.VarintBits
import Derived.Lib.Zigzag
namespace Go.Proofs.Ytahbaifbihpppaa.Less
open Go Go.RowKit Words

def S8 (l : List UInt8) : Value := .string ⟨l.toArray⟩
theorem info_str : (Try.prog.info? 9).map (fun i => (i.zero, i.size, i.bytes)) = some (some (.string ByteArray.empty), 1, 16) := by kernel_rfl
theorem oneS (l : List (List UInt8)) : ∀ u ∈ l.map S8, u.oneCell' = true := by
  intro u hu
  obtain ⟨c, _, rfl⟩ := List.mem_map.1 hu
  rfl
theorem cellS {w : World} {b off : Nat} {l : List (List UInt8)} (hc : ∀ j u, (l.map S8)[j]? = some u → w.cell? ⟨b, off + j, none⟩ = some u) {k : Nat} (hk : k < l.length) :
    w.cell? ⟨b, off + k, none⟩ = some (.string ⟨(l[k]).toArray⟩) := hc k _ (by simp [hk, S8])

def less : List UInt8 → List UInt8 → Bool
  | _, [] => false
  | [], _ :: _ => true
  | a :: r, b :: s => a.toNat < b.toNat || (a.toNat == b.toNat && less r s)
theorem less_lt : ∀ a b : List UInt8, less a b = true ↔ a < b
  | a, [] => by cases a <;> simp [less]
  | [], _ :: _ => by simp [less]
  | x :: r, y :: s => by
    rw [List.cons_lt_cons_iff, ← less_lt r s]
    simp only [less, Bool.or_eq_true, decide_eq_true_eq, Bool.and_eq_true, beq_iff_eq]
    rw [UInt8.lt_iff_toNat_lt, ← UInt8.toNat_inj]
theorem less_irrefl (a : List UInt8) : less a a = false := by
  cases h : less a a with
  | false => rfl
  | true => exact absurd ((less_lt a a).1 h) (List.lt_irrefl a)
theorem less_trans {a b c : List UInt8} (h : less a b = true) (h' : less b c = true) : less a c = true :=
  (less_lt a c).2 (List.lt_trans ((less_lt a b).1 h) ((less_lt b c).1 h'))
theorem less_total {a b : List UInt8} (h : a ≠ b) : less a b = true ∨ less b a = true := by
  by_cases h1 : a < b
  · exact .inl ((less_lt a b).2 h1)
  · by_cases h2 : b < a
    · exact .inr ((less_lt b a).2 h2)
    · exact absurd (List.le_antisymm (List.not_lt.1 h2) (List.not_lt.1 h1)) h
theorem less_is : ∀ a b : List UInt8, Op.bytesLess a b = less a b
  | _, [] => by cases ‹List UInt8› <;> rfl
  | [], _ :: _ => rfl
  | a :: x, b :: y => by
    rw [Op.bytesLess, less, less_is x y]
    have h1 : (a == b) = (a.toNat == b.toNat) := by
      rw [Bool.eq_iff_iff, beq_iff_eq, beq_iff_eq]
      exact UInt8.toNat_inj.symm
    rw [h1]
    rfl
theorem run_lss (w : World) (a b : List UInt8) (x : Bool) (h : less a b = x) : (binOp .lss 9 (.string ⟨a.toArray⟩) (.string ⟨b.toArray⟩)).run Try.prog w = .ok (.bool x) w := by
  show Result.ok (Value.bool (Op.bytesLess (ByteArray.toList ⟨a.toArray⟩) (ByteArray.toList ⟨b.toArray⟩))) w = _
  rw [ByteArray.toList_mk, ByteArray.toList_mk, less_is, h]

/-! ### Each text once, in order -/
def ins (x : List UInt8) : List (List UInt8) → List (List UInt8)
  | [] => [x]
  | y :: r => if less y x = true then y :: ins x r else if y = x then y :: r else x :: y :: r
def once (l : List (List UInt8)) : List (List UInt8) := l.foldl (fun o x => ins x o) []
def pos (x : List UInt8) (o : List (List UInt8)) : Nat := (o.takeWhile fun y => less y x).length
theorem pos_le (x : List UInt8) (o : List (List UInt8)) : pos x o ≤ o.length := by
  unfold pos
  induction o with
  | nil => simp
  | cons y r ih =>
    rw [List.takeWhile_cons]
    split
    · simp only [List.length_cons]; omega
    · simp
theorem pos_before (x : List UInt8) : ∀ (o : List (List UInt8)) (k : Nat) (hk : k < o.length), k < pos x o → less o[k] x = true := by
  intro o
  unfold pos
  induction o with
  | nil => intro k hk; simp at hk
  | cons y r ih =>
    intro k hk h
    rw [List.takeWhile_cons] at h
    split at h
    · rename_i hy
      cases k with
      | zero => exact hy
      | succ k => exact ih k (by simpa using hk) (by simpa using h)
    · simp at h
theorem pos_at (x : List UInt8) : ∀ (o : List (List UInt8)) (hk : pos x o < o.length), less (o[pos x o]) x = false := by
  intro o
  induction o with
  | nil => intro hk; simp at hk
  | cons y r ih =>
    intro hk
    by_cases hy : less y x = true
    · have e : pos x (y :: r) = pos x r + 1 := by unfold pos; rw [List.takeWhile_cons, if_pos hy]; rfl
      have h := ih (by rw [e] at hk; simpa using hk)
      simp only [e, List.getElem_cons_succ]
      exact h
    · have e : pos x (y :: r) = 0 := by unfold pos; rw [List.takeWhile_cons, if_neg hy]; rfl
      simp only [e, List.getElem_cons_zero]
      simpa using hy
theorem ins_pos (x : List UInt8) (o : List (List UInt8)) : ins x o = if o[pos x o]? = some x then o else o.take (pos x o) ++ x :: o.drop (pos x o) := by
  induction o with
  | nil => rfl
  | cons y r ih =>
    rw [ins]
    by_cases hy : less y x = true
    · have e : pos x (y :: r) = pos x r + 1 := by unfold pos; rw [List.takeWhile_cons, if_pos hy]; rfl
      rw [if_pos hy, e, List.getElem?_cons_succ, List.take_succ_cons, List.drop_succ_cons, ih]
      split <;> rfl
    · have e : pos x (y :: r) = 0 := by unfold pos; rw [List.takeWhile_cons, if_neg hy]; rfl
      rw [if_neg hy, e, List.getElem?_cons_zero, List.take_zero, List.drop_zero]
      by_cases hyx : y = x
      · rw [if_pos hyx, if_pos (by rw [hyx])]
      · rw [if_neg hyx, if_neg (by simpa using hyx)]
        rfl
theorem ins_length (x : List UInt8) (o : List (List UInt8)) : (ins x o).length ≤ o.length + 1 := by
  induction o with
  | nil => simp [ins]
  | cons y r ih =>
    rw [ins]
    split
    · simp only [List.length_cons]; omega
    · split <;> simp
theorem once_take {l : List (List UInt8)} {k : Nat} (h : k < l.length) : once (l.take (k + 1)) = ins l[k] (once (l.take k)) := by
  unfold once
  rw [List.take_succ_eq_append_getElem h, List.foldl_append]
  rfl
theorem once_length (l : List (List UInt8)) : (once l).length ≤ l.length := by
  have key : ∀ (l o : List (List UInt8)), (l.foldl (fun o x => ins x o) o).length ≤ o.length + l.length := by
    intro l
    induction l with
    | nil => intro o; simp
    | cons x l ih =>
      intro o
      have h1 := ih (ins x o)
      have h2 := ins_length x o
      rw [List.foldl_cons, List.length_cons]
      omega
  have h := key l []
  rw [List.length_nil, Nat.zero_add] at h
  exact h
def Rises (l : List (List UInt8)) : Prop := l.Pairwise fun a b => less a b = true
theorem mem_ins {x z : List UInt8} : ∀ {o : List (List UInt8)}, z ∈ ins x o ↔ z = x ∨ z ∈ o
  | [] => by simp [ins]
  | y :: r => by
    rw [ins]
    split
    · rw [List.mem_cons, mem_ins, List.mem_cons]
      constructor
      · rintro (h | h | h)
        · exact .inr (.inl h)
        · exact .inl h
        · exact .inr (.inr h)
      · rintro (h | h | h)
        · exact .inr (.inl h)
        · exact .inl h
        · exact .inr (.inr h)
    · split
      · rename_i hy
        subst hy
        simp
      · simp
theorem rises_ins {x : List UInt8} : ∀ {o : List (List UInt8)}, Rises o → Rises (ins x o)
  | [], _ => by unfold Rises; simp [ins]
  | y :: r, h => by
    unfold Rises at h ⊢
    rw [List.pairwise_cons] at h
    rw [ins]
    split
    · rename_i hy
      rw [List.pairwise_cons]
      refine ⟨fun z hz => ?_, rises_ins h.2⟩
      rcases mem_ins.1 hz with rfl | hz
      · exact hy
      · exact h.1 z hz
    · split
      · rw [List.pairwise_cons]; exact h
      · rename_i h1 h2
        have hxy : less x y = true := by
          rcases less_total h2 with h3 | h3
          · exact absurd h3 h1
          · exact h3
        rw [List.pairwise_cons, List.pairwise_cons]
        refine ⟨fun z hz => ?_, h⟩
        rcases List.mem_cons.1 hz with rfl | hz
        · exact hxy
        · exact less_trans hxy (h.1 z hz)
theorem rises_once (l : List (List UInt8)) : Rises (once l) := by
  have key : ∀ (l o : List (List UInt8)), Rises o → Rises (l.foldl (fun o x => ins x o) o) := by
    intro l
    induction l with
    | nil => intro o h; exact h
    | cons x l ih => intro o h; exact ih _ (rises_ins h)
  exact key l [] (by unfold Rises; simp)
theorem mem_once {z : List UInt8} {l : List (List UInt8)} : z ∈ once l ↔ z ∈ l := by
  have key : ∀ (l o : List (List UInt8)), z ∈ l.foldl (fun o x => ins x o) o ↔ z ∈ o ∨ z ∈ l := by
    intro l
    induction l with
    | nil => intro o; simp
    | cons x l ih =>
      intro o
      rw [List.foldl_cons, ih, mem_ins, List.mem_cons]
      constructor
      · rintro ((h | h) | h)
        · exact .inr (.inl h)
        · exact .inl h
        · exact .inr (.inr h)
      · rintro (h | h | h)
        · exact .inl (.inr h)
        · exact .inl (.inl h)
        · exact .inr h
  simpa [once] using key l []
/-- A rising list is told by what is in it. -/
theorem rises_ext : ∀ {a b : List (List UInt8)}, Rises a → Rises b → (∀ z, z ∈ a ↔ z ∈ b) → a = b := by
  intro a b ha hb h
  refine List.Perm.eq_of_pairwise (le := fun x y => less x y = true) (fun x y _ _ h1 h2 => ?_) ha hb ?_
  · have := less_trans h1 h2
    rw [less_irrefl] at this
    cases this
  · have nd : ∀ {l : List (List UInt8)}, Rises l → l.Nodup := fun {l} hl => List.Pairwise.imp (fun {x y} hxy e => by subst e; rw [less_irrefl] at hxy; cases hxy) hl
    exact (List.perm_ext_iff_of_nodup (nd ha) (nd hb)).2 h
theorem once_ext {a b : List (List UInt8)} (h : ∀ z, z ∈ a ↔ z ∈ b) : once a = once b :=
  rises_ext (rises_once a) (rises_once b) fun z => by rw [mem_once, mem_once, h]
theorem once_self {a : List (List UInt8)} (h : Rises a) : once a = a := rises_ext (rises_once a) h fun z => mem_once
end Go.Proofs.Ytahbaifbihpppaa.Less

namespace Go.Proofs.Ytahbaifbihpppaa.UtSpec
open Go

def at' (l : List UInt8) (k : Nat) : Nat := (l.getD k 0).toNat
def cont (l : List UInt8) (k : Nat) : Bool := decide (k < l.length) && at' l k / 64 == 2
def okr (r : Nat) : Bool := decide (r < 0xD800) || (decide (0xE000 ≤ r) && decide (r ≤ 0x10FFFF))
def dec (l : List UInt8) : Nat × Nat :=
  if at' l 0 < 0x80 then (at' l 0, 1)
  else if at' l 0 / 32 == 6 && cont l 1 then
    (if (at' l 0 % 32) * 64 + at' l 1 % 64 ≥ 0x80 then ((at' l 0 % 32) * 64 + at' l 1 % 64, 2) else (0xFFFD, 1))
  else if at' l 0 / 16 == 14 && cont l 1 && cont l 2 then
    (if (at' l 0 % 16) * 4096 + (at' l 1 % 64) * 64 + at' l 2 % 64 ≥ 0x800 && okr ((at' l 0 % 16) * 4096 + (at' l 1 % 64) * 64 + at' l 2 % 64) then ((at' l 0 % 16) * 4096 + (at' l 1 % 64) * 64 + at' l 2 % 64, 3) else (0xFFFD, 1))
  else if at' l 0 / 8 == 30 && cont l 1 && cont l 2 && cont l 3 then
    (if (at' l 0 % 8) * 262144 + (at' l 1 % 64) * 4096 + (at' l 2 % 64) * 64 + at' l 3 % 64 ≥ 0x10000 && okr ((at' l 0 % 8) * 262144 + (at' l 1 % 64) * 4096 + (at' l 2 % 64) * 64 + at' l 3 % 64) then ((at' l 0 % 8) * 262144 + (at' l 1 % 64) * 4096 + (at' l 2 % 64) * 64 + at' l 3 % 64, 4) else (0xFFFD, 1))
  else (0xFFFD, 1)

theorem valid_okr (c : Nat) : Utf8.valid (c : Int) = okr c := by
  unfold Utf8.valid okr
  rw [Bool.eq_iff_iff]
  simp
  omega
theorem get_drop (s : ByteArray) (i k : Nat) : (s.get! (i + k)).toNat = at' (s.data.toList.drop i) k := by
  unfold at'
  rw [List.getD_eq_getElem?_getD, List.getElem?_drop]
  by_cases h : i + k < s.size
  · have h' : i + k < s.data.toList.length := by simpa using h
    rw [List.getElem?_eq_getElem h']
    simp [ByteArray.get!, getElem!_pos, h]
  · have h' : ¬ i + k < s.data.size := h
    rw [List.getElem?_eq_none (by simpa using h)]
    show (s.data[i + k]!).toNat = _
    rw [getElem!_neg s.data (i + k) h']
    rfl
theorem decode_dec (s : ByteArray) (i : Nat) : Utf8.decode s i = dec (s.data.toList.drop i) := by
  have hs : ∀ k, (decide (i + k < s.size)) = decide (k < (s.data.toList.drop i).length) := fun k => by
    rw [Bool.eq_iff_iff]
    simp
    have : s.data.size = s.size := rfl
    omega
  unfold Utf8.decode dec cont
  simp only [get_drop, hs, valid_okr, Utf8.runeError]

/-- A rune that UTF-8 has bytes for. -/
def sc (r : Nat) : Prop := r < 0xD800 ∨ (0xE000 ≤ r ∧ r ≤ 0x10FFFF)
theorem okr_sc {r : Nat} (h : okr r = true) : sc r := by unfold okr at h; simp at h; exact h
theorem sc_okr {r : Nat} (h : sc r) : okr r = true := by unfold okr; simp; exact h
def enc (r : Nat) : List UInt8 := Lib.encodeRune (r : Int)

theorem byte_eq {x : Int} {b : UInt8} (h : x = (b.toNat : Int)) : x.toNat.toUInt8 = b := by
  subst h
  simp
theorem toNat_ofNat {n : Nat} (h : n < 256) : (UInt8.ofNat n).toNat = n := by simp; omega
theorem enc_one {r : Nat} {b0 : UInt8} (h : r < 128) (h0 : b0.toNat = r) : enc r = [b0] := by
  unfold enc Lib.encodeRune
  rw [Lib.encodeRuneZ_one (by omega) (by omega)]
  simp only [List.map_cons, List.map_nil]
  rw [byte_eq (b := b0) (by omega)]
theorem enc_two {r : Nat} {b0 b1 : UInt8} (h : 128 ≤ r) (h' : r < 2048) (h0 : b0.toNat = 192 + r / 64) (h1 : b1.toNat = 128 + r % 64) : enc r = [b0, b1] := by
  unfold enc Lib.encodeRune
  rw [Lib.encodeRuneZ_two (by omega) (by omega)]
  simp only [List.map_cons, List.map_nil]
  rw [byte_eq (b := b0) (by omega), byte_eq (b := b1) (by omega)]
theorem enc_three {r : Nat} {b0 b1 b2 : UInt8} (hs : sc r) (h : 2048 ≤ r) (h' : r < 65536) (h0 : b0.toNat = 224 + r / 4096) (h1 : b1.toNat = 128 + r / 64 % 64) (h2 : b2.toNat = 128 + r % 64) : enc r = [b0, b1, b2] := by
  unfold sc at hs
  unfold enc Lib.encodeRune
  rw [Lib.encodeRuneZ_three (by omega)]
  simp only [List.map_cons, List.map_nil]
  rw [byte_eq (b := b0) (by omega), byte_eq (b := b1) (by omega), byte_eq (b := b2) (by omega)]
theorem enc_four {r : Nat} {b0 b1 b2 b3 : UInt8} (hs : sc r) (h : 65536 ≤ r) (h0 : b0.toNat = 240 + r / 262144) (h1 : b1.toNat = 128 + r / 4096 % 64) (h2 : b2.toNat = 128 + r / 64 % 64) (h3 : b3.toNat = 128 + r % 64) : enc r = [b0, b1, b2, b3] := by
  unfold sc at hs
  unfold enc Lib.encodeRune
  rw [Lib.encodeRuneZ_four (by omega) (by omega)]
  simp only [List.map_cons, List.map_nil]
  rw [byte_eq (b := b0) (by omega), byte_eq (b := b1) (by omega), byte_eq (b := b2) (by omega), byte_eq (b := b3) (by omega)]

/-- The bytes of a rune, told apart. -/
theorem enc_cases {r : Nat} (hs : sc r) :
    (∃ b0, enc r = [b0] ∧ r < 128 ∧ b0.toNat = r) ∨
    (∃ b0 b1, enc r = [b0, b1] ∧ 128 ≤ r ∧ r < 2048 ∧ b0.toNat = 192 + r / 64 ∧ b1.toNat = 128 + r % 64) ∨
    (∃ b0 b1 b2, enc r = [b0, b1, b2] ∧ 2048 ≤ r ∧ r < 65536 ∧ b0.toNat = 224 + r / 4096 ∧ b1.toNat = 128 + r / 64 % 64 ∧ b2.toNat = 128 + r % 64) ∨
    (∃ b0 b1 b2 b3, enc r = [b0, b1, b2, b3] ∧ 65536 ≤ r ∧ r ≤ 0x10FFFF ∧ b0.toNat = 240 + r / 262144 ∧ b1.toNat = 128 + r / 4096 % 64 ∧ b2.toNat = 128 + r / 64 % 64 ∧ b3.toNat = 128 + r % 64) := by
  have hs' := hs
  unfold sc at hs
  rcases Nat.lt_or_ge r 128 with h | h
  · exact .inl ⟨UInt8.ofNat r, enc_one h (toNat_ofNat (by omega)), h, toNat_ofNat (by omega)⟩
  rcases Nat.lt_or_ge r 2048 with h' | h'
  · have e0 := toNat_ofNat (n := 192 + r / 64) (by omega)
    have e1 := toNat_ofNat (n := 128 + r % 64) (by omega)
    exact .inr (.inl ⟨_, _, enc_two h h' e0 e1, h, h', e0, e1⟩)
  rcases Nat.lt_or_ge r 65536 with h2 | h2
  · have e0 := toNat_ofNat (n := 224 + r / 4096) (by omega)
    have e1 := toNat_ofNat (n := 128 + r / 64 % 64) (by omega)
    have e2 := toNat_ofNat (n := 128 + r % 64) (by omega)
    exact .inr (.inr (.inl ⟨_, _, _, enc_three hs' h' h2 e0 e1 e2, h', h2, e0, e1, e2⟩))
  · have e0 := toNat_ofNat (n := 240 + r / 262144) (by omega)
    have e1 := toNat_ofNat (n := 128 + r / 4096 % 64) (by omega)
    have e2 := toNat_ofNat (n := 128 + r / 64 % 64) (by omega)
    have e3 := toNat_ofNat (n := 128 + r % 64) (by omega)
    exact .inr (.inr (.inr ⟨_, _, _, _, enc_four hs' h2 e0 e1 e2 e3, h2, by omega, e0, e1, e2, e3⟩))

theorem enc_len {r : Nat} (hs : sc r) : 1 ≤ (enc r).length ∧ (enc r).length ≤ 4 ∧ ((enc r).length = 1 → r < 128) := by
  rcases enc_cases hs with ⟨b0, e, h, _⟩ | ⟨b0, b1, e, _⟩ | ⟨b0, b1, b2, e, _⟩ | ⟨b0, b1, b2, b3, e, _⟩ <;> rw [e] <;> simp
  exact h

/-- What begins with a rune's bytes is decoded as it. -/
theorem dec_enc {r : Nat} (hs : sc r) (t : List UInt8) : dec (enc r ++ t) = (r, (enc r).length) := by
  have hs' := sc_okr hs
  rcases enc_cases hs with ⟨b0, e, h, h0⟩ | ⟨b0, b1, e, h, h', h0, h1⟩ | ⟨b0, b1, b2, e, h, h', h0, h1, h2⟩ | ⟨b0, b1, b2, b3, e, h, h', h0, h1, h2, h3⟩
  · rw [e]
    unfold dec at'
    simp [h0, h]
  · rw [e]
    have c1 : cont ([b0, b1] ++ t) 1 = true := by unfold cont at'; simp; omega
    have d : (at' ([b0, b1] ++ t) 0) = 192 + r / 64 := by unfold at'; simpa using h0
    have d1 : (at' ([b0, b1] ++ t) 1) = 128 + r % 64 := by unfold at'; simpa using h1
    have q : ((192 + r / 64) % 32) * 64 + (128 + r % 64) % 64 = r := by omega
    have q1 : (192 + r / 64) / 32 = 6 := by omega
    unfold dec
    rw [d, d1, c1, q, q1, if_neg (by omega), if_pos (by decide), if_pos h]
    rfl
  · rw [e]
    have c1 : cont ([b0, b1, b2] ++ t) 1 = true := by unfold cont at'; simp; omega
    have c2 : cont ([b0, b1, b2] ++ t) 2 = true := by unfold cont at'; simp; omega
    have d : (at' ([b0, b1, b2] ++ t) 0) = 224 + r / 4096 := by unfold at'; simpa using h0
    have d1 : (at' ([b0, b1, b2] ++ t) 1) = 128 + r / 64 % 64 := by unfold at'; simpa using h1
    have d2 : (at' ([b0, b1, b2] ++ t) 2) = 128 + r % 64 := by unfold at'; simpa using h2
    have q : ((224 + r / 4096) % 16) * 4096 + ((128 + r / 64 % 64) % 64) * 64 + (128 + r % 64) % 64 = r := by omega
    have q0 : ((224 + r / 4096) / 32 == 6) = false := by simp; omega
    have q1 : (224 + r / 4096) / 16 = 14 := by omega
    unfold dec
    rw [d, d1, d2, c1, c2, q, q0, q1, if_neg (by omega), if_neg (by decide), if_pos (by decide), hs', if_pos (by simpa using h)]
    rfl
  · rw [e]
    have c1 : cont ([b0, b1, b2, b3] ++ t) 1 = true := by unfold cont at'; simp; omega
    have c2 : cont ([b0, b1, b2, b3] ++ t) 2 = true := by unfold cont at'; simp; omega
    have c3 : cont ([b0, b1, b2, b3] ++ t) 3 = true := by unfold cont at'; simp; omega
    have d : (at' ([b0, b1, b2, b3] ++ t) 0) = 240 + r / 262144 := by unfold at'; simpa using h0
    have d1 : (at' ([b0, b1, b2, b3] ++ t) 1) = 128 + r / 4096 % 64 := by unfold at'; simpa using h1
    have d2 : (at' ([b0, b1, b2, b3] ++ t) 2) = 128 + r / 64 % 64 := by unfold at'; simpa using h2
    have d3 : (at' ([b0, b1, b2, b3] ++ t) 3) = 128 + r % 64 := by unfold at'; simpa using h3
    have q : ((240 + r / 262144) % 8) * 262144 + ((128 + r / 4096 % 64) % 64) * 4096 + ((128 + r / 64 % 64) % 64) * 64 + (128 + r % 64) % 64 = r := by omega
    have q0 : ((240 + r / 262144) / 32 == 6) = false := by simp; omega
    have q1 : ((240 + r / 262144) / 16 == 14) = false := by simp; omega
    have q2 : (240 + r / 262144) / 8 = 30 := by omega
    unfold dec
    rw [d, d1, d2, d3, c1, c2, c3, q, q0, q1, q2, if_neg (by omega), if_neg (by decide), if_neg (by decide), if_pos (by decide), hs', if_pos (by simpa using h)]
    rfl

theorem cont_cons {l : List UInt8} {k : Nat} (h : cont l k = true) : k < l.length ∧ at' l k / 64 = 2 := by
  unfold cont at h
  simpa using h
theorem at_get {l : List UInt8} {k : Nat} (h : k < l.length) : at' l k = (l[k]).toNat := by unfold at'; simp [h]

/-- What stands at a text's beginning is a rune's bytes, or a byte that is part of none. -/
theorem dec_cases {l : List UInt8} (hl : l ≠ []) : dec l = (0xFFFD, 1) ∨ ∃ r t, sc r ∧ l = enc r ++ t ∧ dec l = (r, (enc r).length) := by
  obtain ⟨a, l, rfl⟩ := List.exists_cons_of_ne_nil hl
  have e0 : at' (a :: l) 0 = a.toNat := rfl
  have ha := a.toNat_lt
  have key : ∀ r t, sc r → a :: l = enc r ++ t → dec (a :: l) = (0xFFFD, 1) ∨ ∃ r t, sc r ∧ a :: l = enc r ++ t ∧ dec (a :: l) = (r, (enc r).length) :=
    fun r t h e => .inr ⟨r, t, h, e, by rw [e]; exact dec_enc h t⟩
  by_cases h0 : a.toNat < 128
  · exact key a.toNat l (.inl (by omega)) (by rw [enc_one h0 rfl]; rfl)
  by_cases h1 : (at' (a :: l) 0 / 32 == 6 && cont (a :: l) 1) = true
  · have h1' := h1
    rw [Bool.and_eq_true, e0, beq_iff_eq] at h1
    obtain ⟨h1, h2⟩ := h1
    obtain ⟨hk, hb⟩ := cont_cons h2
    obtain ⟨b, l, rfl⟩ : ∃ b l', l = b :: l' := by cases l with | nil => simp at hk | cons b l => exact ⟨b, l, rfl⟩
    have e1 : at' (a :: b :: l) 1 = b.toNat := rfl
    rw [e1] at hb
    by_cases h3 : (a.toNat % 32) * 64 + b.toNat % 64 ≥ 128
    · exact key ((a.toNat % 32) * 64 + b.toNat % 64) l (.inl (by omega)) (by rw [enc_two (b0 := a) (b1 := b) h3 (by omega) (by omega) (by omega)]; rfl)
    · left
      unfold dec
      rw [if_neg (by rw [e0]; exact h0), if_pos h1', if_neg (by rw [e0, e1]; exact h3)]
  by_cases h2 : (at' (a :: l) 0 / 16 == 14 && cont (a :: l) 1 && cont (a :: l) 2) = true
  · have h2' := h2
    rw [Bool.and_eq_true, Bool.and_eq_true, e0, beq_iff_eq] at h2
    obtain ⟨⟨h3, hc1⟩, hc2⟩ := h2
    obtain ⟨hk1, hb1⟩ := cont_cons hc1
    obtain ⟨hk2, hb2⟩ := cont_cons hc2
    obtain ⟨b, c, l, rfl⟩ : ∃ b c l', l = b :: c :: l' := by
      match l, hk2 with
      | b :: c :: l, _ => exact ⟨b, c, l, rfl⟩
      | [_], h => simp at h
      | [], h => simp at h
    have e1 : at' (a :: b :: c :: l) 1 = b.toNat := rfl
    have e2 : at' (a :: b :: c :: l) 2 = c.toNat := rfl
    rw [e1] at hb1
    rw [e2] at hb2
    by_cases h4 : ((a.toNat % 16) * 4096 + (b.toNat % 64) * 64 + c.toNat % 64 ≥ 2048 && okr ((a.toNat % 16) * 4096 + (b.toNat % 64) * 64 + c.toNat % 64)) = true
    · rw [Bool.and_eq_true, decide_eq_true_eq] at h4
      exact key _ l (okr_sc h4.2) (by rw [enc_three (b0 := a) (b1 := b) (b2 := c) (okr_sc h4.2) h4.1 (by omega) (by omega) (by omega) (by omega)]; rfl)
    · left
      unfold dec
      rw [if_neg (by rw [e0]; exact h0), if_neg h1, if_pos h2', if_neg (by rw [e0, e1, e2]; exact h4)]
  by_cases h3 : (at' (a :: l) 0 / 8 == 30 && cont (a :: l) 1 && cont (a :: l) 2 && cont (a :: l) 3) = true
  · have h3' := h3
    rw [Bool.and_eq_true, Bool.and_eq_true, Bool.and_eq_true, e0, beq_iff_eq] at h3
    obtain ⟨⟨⟨h4, hc1⟩, hc2⟩, hc3⟩ := h3
    obtain ⟨hk1, hb1⟩ := cont_cons hc1
    obtain ⟨hk2, hb2⟩ := cont_cons hc2
    obtain ⟨hk3, hb3⟩ := cont_cons hc3
    obtain ⟨b, c, d, l, rfl⟩ : ∃ b c d l', l = b :: c :: d :: l' := by
      match l, hk3 with
      | b :: c :: d :: l, _ => exact ⟨b, c, d, l, rfl⟩
      | [_, _], h => simp at h
      | [_], h => simp at h
      | [], h => simp at h
    have e1 : at' (a :: b :: c :: d :: l) 1 = b.toNat := rfl
    have e2 : at' (a :: b :: c :: d :: l) 2 = c.toNat := rfl
    have e3 : at' (a :: b :: c :: d :: l) 3 = d.toNat := rfl
    rw [e1] at hb1
    rw [e2] at hb2
    rw [e3] at hb3
    by_cases h5 : ((a.toNat % 8) * 262144 + (b.toNat % 64) * 4096 + (c.toNat % 64) * 64 + d.toNat % 64 ≥ 65536 && okr ((a.toNat % 8) * 262144 + (b.toNat % 64) * 4096 + (c.toNat % 64) * 64 + d.toNat % 64)) = true
    · rw [Bool.and_eq_true, decide_eq_true_eq] at h5
      exact key _ l (okr_sc h5.2) (by rw [enc_four (b0 := a) (b1 := b) (b2 := c) (b3 := d) (okr_sc h5.2) h5.1 (by omega) (by omega) (by omega) (by omega)]; rfl)
    · left
      unfold dec
      rw [if_neg (by rw [e0]; exact h0), if_neg h1, if_neg h2, if_pos h3', if_neg (by rw [e0, e1, e2, e3]; exact h5)]
  · left
    unfold dec
    rw [if_neg (by rw [e0]; exact h0), if_neg h1, if_neg h2, if_neg h3]

/-- What a broken byte is: no rune's bytes begin here. -/
theorem bad_no {r : Nat} (hs : sc r) (t : List UInt8) : dec (enc r ++ t) ≠ (0xFFFD, 1) := by
  rw [dec_enc hs]
  intro e
  injection e with e1 e2
  have := (enc_len hs).2.2 e2
  omega
theorem dec_len {l : List UInt8} (hl : l ≠ []) : 1 ≤ (dec l).2 ∧ (dec l).2 ≤ l.length ∧ sc (dec l).1 := by
  rcases dec_cases hl with h | ⟨r, t, hs, e, h⟩
  · rw [h]
    have := List.length_pos_iff.2 hl
    exact ⟨Nat.le_refl _, this, .inr (by simp)⟩
  · rw [h]
    have := enc_len hs
    exact ⟨this.1, by rw [e]; simp, hs⟩

/-! ### The runes of a text -/
def runesF : Nat → List UInt8 → List (Nat × Nat)
  | 0, _ => []
  | _ + 1, [] => []
  | f + 1, a :: l => dec (a :: l) :: runesF f ((a :: l).drop (dec (a :: l)).2)
def runes (l : List UInt8) : List (Nat × Nat) := runesF l.length l
theorem runesF_more : ∀ (f g : Nat) (l : List UInt8), l.length ≤ f → l.length ≤ g → runesF f l = runesF g l
  | 0, 0, _, _, _ => rfl
  | 0, g + 1, l, h, _ => by obtain rfl : l = [] := List.eq_nil_of_length_eq_zero (by omega); rfl
  | f + 1, 0, l, _, h => by obtain rfl : l = [] := List.eq_nil_of_length_eq_zero (by omega); rfl
  | f + 1, g + 1, [], _, _ => rfl
  | f + 1, g + 1, a :: l, h, h' => by
    have hd := dec_len (l := a :: l) (by simp)
    rw [runesF, runesF, runesF_more f g _ (by rw [List.length_drop]; omega) (by rw [List.length_drop]; omega)]
theorem runes_nil : runes [] = [] := rfl
theorem runes_cons {l : List UInt8} (hl : l ≠ []) : runes l = dec l :: runes (l.drop (dec l).2) := by
  obtain ⟨a, l, rfl⟩ := List.exists_cons_of_ne_nil hl
  have hd := dec_len (l := a :: l) (by simp)
  unfold runes
  rw [List.length_cons, runesF, runesF_more l.length _ _ (by rw [List.length_drop]; simp at hd ⊢; omega) (Nat.le_refl _)]
theorem runes_enc {r : Nat} (hs : sc r) (t : List UInt8) : runes (enc r ++ t) = (r, (enc r).length) :: runes t := by
  have hl := enc_len hs
  have hne : enc r ++ t ≠ [] := by
    intro e
    have := congrArg List.length e
    rw [List.length_append, List.length_nil] at this
    omega
  rw [runes_cons hne, dec_enc hs]
  simp
theorem runes_bad {a : UInt8} {t : List UInt8} (h : dec (a :: t) = (0xFFFD, 1)) : runes (a :: t) = (0xFFFD, 1) :: runes t := by
  rw [runes_cons (by simp), h]
  rfl
def bad (p : Nat × Nat) : Bool := p.2 == 1 && p.1 == 0xFFFD
def cnt (l : List UInt8) : Nat := (runes l).length
def vals (l : List UInt8) : Bool := (runes l).all fun p => !bad p
theorem bad_iff {p : Nat × Nat} : bad p = true ↔ p = (0xFFFD, 1) := by
  unfold bad
  obtain ⟨x, y⟩ := p
  simp
  omega
theorem not_bad {r : Nat} (hs : sc r) : bad (r, (enc r).length) = false := by
  have h := bad_no hs []
  rw [dec_enc hs] at h
  cases hb : bad (r, (enc r).length) with
  | false => rfl
  | true => exact absurd (bad_iff.1 hb) h

/-- By parts: an induction over a text's runes. -/
theorem by_runes {C : List UInt8 → Prop} (hn : C []) (hc : ∀ a l, C ((a :: l).drop (dec (a :: l)).2) → C (a :: l)) : ∀ l, C l := by
  intro l
  obtain ⟨n, h⟩ : ∃ n, l.length ≤ n := ⟨_, Nat.le_refl _⟩
  induction n generalizing l with
  | zero => obtain rfl : l = [] := List.eq_nil_of_length_eq_zero (by omega); exact hn
  | succ n ih =>
    cases l with
    | nil => exact hn
    | cons a l =>
      have hd := dec_len (l := a :: l) (by simp)
      exact hc a l (ih _ (by rw [List.length_drop]; omega))

def encs (rs : List Nat) : List UInt8 := rs.flatMap enc
theorem encs_cons (r : Nat) (rs : List Nat) : encs (r :: rs) = enc r ++ encs rs := by simp [encs]
theorem encs_append (rs ts : List Nat) : encs (rs ++ ts) = encs rs ++ encs ts := by simp [encs]
theorem runes_encs : ∀ (rs : List Nat) (t : List UInt8), (∀ r ∈ rs, sc r) → runes (encs rs ++ t) = rs.map (fun r => (r, (enc r).length)) ++ runes t
  | [], t, _ => by simp [encs]
  | r :: rs, t, h => by
    rw [encs_cons, List.append_assoc, runes_enc (h r (by simp)), runes_encs rs t (fun x hx => h x (by simp [hx]))]
    simp
theorem runes_encs' (rs : List Nat) (h : ∀ r ∈ rs, sc r) : runes (encs rs) = rs.map fun r => (r, (enc r).length) := by
  have := runes_encs rs [] h
  simpa [runes_nil] using this
theorem vals_encs {rs : List Nat} (h : ∀ r ∈ rs, sc r) : vals (encs rs) = true := by
  unfold vals
  rw [runes_encs' rs h, List.all_map, List.all_eq_true]
  intro r hr
  simp [not_bad (h r hr)]
theorem cnt_encs {rs : List Nat} (h : ∀ r ∈ rs, sc r) : cnt (encs rs) = rs.length := by
  unfold cnt
  rw [runes_encs' rs h, List.length_map]
/-- A valid text is its runes' bytes. -/
theorem vals_of (l : List UInt8) : vals l = true → ∃ rs, (∀ r ∈ rs, sc r) ∧ l = encs rs := by
  refine by_runes (C := fun l => vals l = true → ∃ rs, (∀ r ∈ rs, sc r) ∧ l = encs rs) (fun _ => ⟨[], by simp, rfl⟩) (fun a l ih h => ?_) l
  unfold vals at h
  rw [runes_cons (by simp), List.all_cons, Bool.and_eq_true] at h
  rcases dec_cases (l := a :: l) (by simp) with hb | ⟨r, t, hs, e, hd⟩
  · rw [hb] at h
    exact absurd h.1 (by decide)
  · rw [hd] at h ih
    have ht : (a :: l).drop (enc r).length = t := by rw [e]; simp
    simp only [ht] at h ih
    obtain ⟨rs, hrs, rfl⟩ := ih h.2
    exact ⟨r :: rs, by
      intro x hx
      rcases List.mem_cons.1 hx with rfl | hx
      · exact hs
      · exact hrs x hx, by rw [e, encs_cons]⟩

/-! ### Small forms and words -/
def inB (r a b : Int) : Bool := decide (a ≤ r) && decide (r ≤ b)
def small (r : Int) : Int :=
  if r = 215 ∨ r = 930 then r
  else if (65 ≤ r ∧ r ≤ 90) ∨ (192 ≤ r ∧ r ≤ 222) ∨ (913 ≤ r ∧ r ≤ 937) ∨ (1040 ≤ r ∧ r ≤ 1071) then r + 32
  else if 1024 ≤ r ∧ r ≤ 1039 then r + 80
  else if r = 376 then 255
  else r
def word (r : Int) : Bool :=
  if (48 ≤ r ∧ r ≤ 57) ∨ (65 ≤ r ∧ r ≤ 90) ∨ (97 ≤ r ∧ r ≤ 122) ∨ r = 95 then true
  else if r < 192 ∨ r = 215 ∨ r = 247 ∨ (8192 ≤ r ∧ r ≤ 8303) ∨ (12288 ≤ r ∧ r ≤ 12351) ∨ r = 65533 then false
  else decide ((0 ≤ r ∧ r < 0xD800) ∨ (0xDFFF < r ∧ r ≤ 0x10FFFF))
theorem small_small (r : Int) : small (small r) = small r := by
  unfold small
  repeat' split
  all_goals omega
theorem word_small (r : Int) : word (small r) = word r := by
  unfold small word
  repeat' split
  all_goals first | rfl | (exfalso; omega) | (rw [decide_eq_decide]; omega)
theorem small_bound {r : Int} (h0 : -2147483648 ≤ r) (h1 : r ≤ 2147483647) : -2147483648 ≤ small r ∧ small r ≤ 2147483647 := by
  unfold small
  repeat' split
  all_goals omega
def smallN (r : Nat) : Nat := (small (r : Int)).toNat
theorem small_nat (r : Nat) : small (r : Int) = (smallN r : Int) := by
  unfold smallN small
  repeat' split
  all_goals omega
theorem smallN_sc {r : Nat} (h : sc r) : sc (smallN r) := by
  have e := small_nat r
  unfold small at e
  unfold sc at *
  repeat' split at e
  all_goals omega
theorem smallN_smallN (r : Nat) : smallN (smallN r) = smallN r := by
  have h := small_small (r : Int)
  rw [small_nat, small_nat] at h
  omega
theorem smallN_ascii {r : Nat} (h : r < 128) : smallN r < 128 := by
  have e := small_nat r
  unfold small at e
  repeat' split at e
  all_goals omega

/-! ### Folding -/
def fold (l : List UInt8) : List UInt8 := (runes l).flatMap fun p => enc (smallN p.1)
theorem runes_sc (l : List UInt8) : ∀ p ∈ runes l, sc p.1 := by
  refine by_runes (C := fun l => ∀ p ∈ runes l, sc p.1) (by simp [runes_nil]) (fun a l ih => ?_) l
  rw [runes_cons (by simp)]
  intro p hp
  rcases List.mem_cons.1 hp with rfl | hp
  · exact (dec_len (by simp)).2.2
  · exact ih p hp
theorem fold_encs (l : List UInt8) : fold l = encs ((runes l).map fun p => smallN p.1) := by
  unfold fold encs
  rw [List.flatMap_map]
theorem fold_sc (l : List UInt8) : ∀ r ∈ (runes l).map (fun p => smallN p.1), sc r := by
  intro r hr
  obtain ⟨p, hp, rfl⟩ := List.mem_map.1 hr
  exact smallN_sc (runes_sc l p hp)
theorem fold_of_encs {rs : List Nat} (h : ∀ r ∈ rs, sc r) : fold (encs rs) = encs (rs.map smallN) := by
  rw [fold_encs, runes_encs' rs h, List.map_map]
  rfl
theorem vals_fold (l : List UInt8) : vals (fold l) = true := by rw [fold_encs]; exact vals_encs (fold_sc l)
theorem cnt_fold (l : List UInt8) : cnt (fold l) = cnt l := by
  rw [fold_encs, cnt_encs (fold_sc l), List.length_map]
  rfl
theorem fold_fold (l : List UInt8) : fold (fold l) = fold l := by
  rw [fold_encs l, fold_of_encs (fold_sc l), List.map_map]
  congr 1
  apply List.map_congr_left
  intro p _
  exact smallN_smallN p.1
theorem runes_len (l : List UInt8) : (runes l).length ≤ l.length := by
  refine by_runes (C := fun l => (runes l).length ≤ l.length) (by simp [runes_nil]) (fun a l ih => ?_) l
  have hd := dec_len (l := a :: l) (by simp)
  rw [runes_cons (by simp), List.length_cons]
  rw [List.length_drop] at ih
  omega
theorem encs_len {rs : List Nat} (h : ∀ r ∈ rs, sc r) : (encs rs).length ≤ 4 * rs.length := by
  induction rs with
  | nil => simp [encs]
  | cons r rs ih =>
    have := enc_len (h r (by simp))
    have := ih (fun x hx => h x (by simp [hx]))
    rw [encs_cons, List.length_append, List.length_cons]
    omega
theorem fold_len (l : List UInt8) : (fold l).length ≤ 4 * l.length := by
  rw [fold_encs]
  have := encs_len (fold_sc l)
  have := runes_len l
  rw [List.length_map] at *
  omega

/-! ### Joins and cuts -/
theorem vals_join {s t : List UInt8} (hs : vals s = true) (ht : vals t = true) : vals (s ++ t) = true ∧ cnt (s ++ t) = cnt s + cnt t ∧ fold (s ++ t) = fold s ++ fold t := by
  obtain ⟨rs, hrs, rfl⟩ := vals_of s hs
  obtain ⟨ts, hts, rfl⟩ := vals_of t ht
  have h : ∀ r ∈ rs ++ ts, sc r := by
    intro r hr
    rcases List.mem_append.1 hr with hr | hr
    · exact hrs r hr
    · exact hts r hr
  rw [← encs_append, vals_encs h, cnt_encs h, cnt_encs hrs, cnt_encs hts, fold_of_encs h, fold_of_encs hrs, fold_of_encs hts, ← encs_append, List.length_append, List.map_append]
  exact ⟨rfl, rfl, rfl⟩
theorem vals_folds (s t : List UInt8) : vals (fold s ++ fold t) = true := by
  rw [fold_encs, fold_encs, ← encs_append]
  refine vals_encs ?_
  intro r hr
  rcases List.mem_append.1 hr with hr | hr
  · exact fold_sc s r hr
  · exact fold_sc t r hr
/-- Where a place lies: between two runes, or within one. -/
theorem place {rs : List Nat} (h : ∀ r ∈ rs, sc r) : ∀ {k : Nat}, k ≤ (encs rs).length →
    (∃ a b, rs = a ++ b ∧ k = (encs a).length) ∨ ∃ a r b j, rs = a ++ r :: b ∧ k = (encs a).length + j ∧ 0 < j ∧ j < (enc r).length := by
  induction rs with
  | nil => intro k hk; exact .inl ⟨[], [], rfl, by simpa [encs] using hk⟩
  | cons r rs ih =>
    intro k hk
    rw [encs_cons, List.length_append] at hk
    rcases Nat.lt_or_ge k (enc r).length with h1 | h1
    · rcases Nat.eq_zero_or_pos k with rfl | h0
      · exact .inl ⟨[], r :: rs, rfl, by simp [encs]⟩
      · exact .inr ⟨[], r, rs, k, rfl, by simp [encs], h0, h1⟩
    · rcases ih (fun x hx => h x (by simp [hx])) (k := k - (enc r).length) (by omega) with ⟨a, b, rfl, e⟩ | ⟨a, q, b, j, rfl, e, h2, h3⟩
      · exact .inl ⟨r :: a, b, rfl, by rw [encs_cons, List.length_append]; omega⟩
      · exact .inr ⟨r :: a, q, b, j, rfl, by rw [encs_cons, List.length_append]; omega, h2, h3⟩
/-- A rune's first byte is none of the later ones, and the others are. -/
theorem enc_head {r : Nat} (hs : sc r) (t : List UInt8) : ∃ c, (enc r ++ t)[0]? = some c ∧ (c.toNat < 128 ∨ 191 < c.toNat) := by
  rcases enc_cases hs with ⟨b0, e, h, h0⟩ | ⟨b0, b1, e, h, h', h0, h1⟩ | ⟨b0, b1, b2, e, h, h', h0, h1, h2⟩ | ⟨b0, b1, b2, b3, e, h, h', h0, h1, h2, h3⟩ <;> rw [e] <;> exact ⟨b0, rfl, by omega⟩
theorem enc_tail {r : Nat} (hs : sc r) {j : Nat} (h0 : 0 < j) (h1 : j < (enc r).length) : 128 ≤ ((enc r)[j]).toNat ∧ ((enc r)[j]).toNat < 192 := by
  have key : ∀ (l : List UInt8) (hl : l = enc r) (hj : j < l.length), (∀ b ∈ l.drop 1, 128 ≤ b.toNat ∧ b.toNat < 192) → 128 ≤ (l[j]).toNat ∧ (l[j]).toNat < 192 := by
    intro l _ hj h
    refine h _ ?_
    rw [List.mem_iff_getElem]
    obtain ⟨i, rfl⟩ : ∃ i, j = i + 1 := ⟨j - 1, by omega⟩
    exact ⟨i, by simp; omega, by simp⟩
  refine key (enc r) rfl h1 ?_
  rcases enc_cases hs with ⟨b0, e, h, h0⟩ | ⟨b0, b1, e, h, h', h0, h1⟩ | ⟨b0, b1, b2, e, h, h', h0, h1, h2⟩ | ⟨b0, b1, b2, b3, e, h, h', h0, h1, h2, h3⟩ <;> rw [e] <;> simp <;> omega
/-- A later byte by itself is part of no rune. -/
theorem dec_later {c : UInt8} (t : List UInt8) (h0 : 128 ≤ c.toNat) (h1 : c.toNat < 192) : dec (c :: t) = (0xFFFD, 1) := by
  have e0 : at' (c :: t) 0 = c.toNat := rfl
  have q1 : (c.toNat / 32 == 6) = false := by simp; omega
  have q2 : (c.toNat / 16 == 14) = false := by simp; omega
  have q3 : (c.toNat / 8 == 30) = false := by simp; omega
  unfold dec
  rw [e0, if_neg (by omega), q1, q2, q3]
  simp
theorem vals_later {c : UInt8} (t : List UInt8) (h0 : 128 ≤ c.toNat) (h1 : c.toNat < 192) : vals (c :: t) = false := by
  unfold vals
  rw [runes_bad (dec_later t h0 h1)]
  simp [bad]
theorem vals_part {rs : List Nat} (h : ∀ r ∈ rs, sc r) (t : List UInt8) : vals (encs rs ++ t) = vals t := by
  unfold vals
  rw [runes_encs rs t h, List.all_append, List.all_map]
  have e : (rs.all ((fun p => !bad p) ∘ fun r => (r, (enc r).length))) = true := by
    rw [List.all_eq_true]
    intro r hr
    simp [not_bad (h r hr)]
  rw [e, Bool.true_and]
/-- The beginning of a rune's bytes is no rune's. -/
theorem vals_begin {r : Nat} (hs : sc r) {j : Nat} (h0 : 0 < j) (h1 : j < (enc r).length) : vals ((enc r).take j) = false := by
  have hne : (enc r).take j ≠ [] := by
    intro e
    have := congrArg List.length e
    rw [List.length_take, List.length_nil] at this
    omega
  rcases dec_cases hne with hb | ⟨q, t, hq, e, hd⟩
  · unfold vals
    rw [runes_cons hne, hb]
    simp [bad]
  · have e2 : enc r = enc q ++ (t ++ (enc r).drop j) := by rw [← List.append_assoc, ← e, List.take_append_drop]
    have e3 := dec_enc hs []
    rw [List.append_nil, e2, dec_enc hq] at e3
    injection e3 with e4 _
    subst e4
    have := congrArg List.length e
    simp at this
    omega
/-- The cut: a valid text that is cut at a place is two valid texts just if a rune begins there, or nothing does. -/
theorem vals_cut {s : List UInt8} (hs : vals s = true) {k : Nat} (hk : k ≤ s.length) (whole : Bool)
    (hw : whole = (k == s.length || (decide (at' s k < 128) || decide (191 < at' s k)))) : vals (s.take k) = whole ∧ vals (s.drop k) = whole := by
  obtain ⟨rs, hrs, rfl⟩ := vals_of s hs
  rcases place hrs hk with ⟨a, b, rfl, rfl⟩ | ⟨a, r, b, j, rfl, rfl, h0, h1⟩
  · have ha : ∀ r ∈ a, sc r := fun r hr => hrs r (by simp [hr])
    have hb : ∀ r ∈ b, sc r := fun r hr => hrs r (by simp [hr])
    have e : whole = true := by
      rw [hw, encs_append]
      cases b with
      | nil => simp [encs]
      | cons q b =>
        obtain ⟨c, hc, hc'⟩ := enc_head (hb q (by simp)) (encs b)
        have : at' (encs a ++ encs (q :: b)) (encs a).length = c.toNat := by
          unfold at'
          rw [List.getD_eq_getElem?_getD, List.getElem?_append_right (Nat.le_refl _), Nat.sub_self, encs_cons, hc]
          rfl
        rw [this]
        simp
        omega
    rw [e, encs_append, List.take_left', List.drop_left']
    · exact ⟨vals_encs ha, vals_encs hb⟩
    · rfl
    · rfl
  · have ha : ∀ r ∈ a, sc r := fun r hr => hrs r (by simp [hr])
    have hr := hrs r (by simp)
    obtain ⟨t0, t1⟩ := enc_tail hr h0 h1
    have eS : encs (a ++ r :: b) = encs a ++ ((enc r).take j ++ ((enc r).drop j ++ encs b)) := by
      rw [encs_append, encs_cons, ← List.append_assoc ((enc r).take j), List.take_append_drop]
    have eD : (enc r).drop j ++ encs b = (enc r)[j] :: ((enc r).drop (j + 1) ++ encs b) := by rw [List.drop_eq_getElem_cons h1]; rfl
    have hl : ((enc r).take j).length = j := by simp; omega
    have eA : at' (encs (a ++ r :: b)) ((encs a).length + j) = ((enc r)[j]).toNat := by
      rw [eS, eD]
      unfold at'
      rw [List.getD_eq_getElem?_getD, List.getElem?_append_right (by omega), List.getElem?_append_right (by omega), hl]
      simp
    have eL : ((encs a).length + j == (encs (a ++ r :: b)).length) = false := by
      rw [encs_append, encs_cons]
      simp
      omega
    have e : whole = false := by
      rw [hw, eA, eL]
      simp
      omega
    rw [e]
    have e1 : (encs (a ++ r :: b)).take ((encs a).length + j) = encs a ++ (enc r).take j := by
      rw [eS, List.take_append, List.take_of_length_le (by omega), show (encs a).length + j - (encs a).length = j by omega, List.take_left' hl]
    have e2 : (encs (a ++ r :: b)).drop ((encs a).length + j) = (enc r).drop j ++ encs b := by
      rw [eS, List.drop_append, List.drop_eq_nil_of_le (by omega), show (encs a).length + j - (encs a).length = j by omega, List.drop_left' hl]
      rfl
    rw [e1, e2, vals_part ha, eD]
    exact ⟨vals_begin hr h0 h1, vals_later _ t0 t1⟩

/-! ### A text of bytes below 128 -/
theorem ascii_encs : ∀ {l : List UInt8}, (∀ b ∈ l, b.toNat < 128) → l = encs (l.map UInt8.toNat)
  | [], _ => rfl
  | b :: l, h => by
    rw [List.map_cons, encs_cons, enc_one (b0 := b) (h b (by simp)) rfl, ← ascii_encs (fun x hx => h x (by simp [hx]))]
    rfl
theorem ascii_sc {l : List UInt8} (h : ∀ b ∈ l, b.toNat < 128) : ∀ r ∈ l.map UInt8.toNat, sc r := by
  intro r hr
  obtain ⟨b, hb, rfl⟩ := List.mem_map.1 hr
  exact .inl (by have := h b hb; omega)
def low (b : UInt8) : UInt8 := UInt8.ofNat (smallN b.toNat)
theorem ascii_all {l : List UInt8} (h : ∀ b ∈ l, b.toNat < 128) : vals l = true ∧ cnt l = l.length ∧ fold l = l.map low := by
  have e := ascii_encs h
  have hs := ascii_sc h
  refine ⟨by rw [e]; exact vals_encs hs, by rw [e, cnt_encs hs]; simp [← e], ?_⟩
  have h2 : ∀ b ∈ l.map low, b.toNat < 128 := by
    intro b hb
    obtain ⟨c, hc, rfl⟩ := List.mem_map.1 hb
    have := smallN_ascii (h c hc)
    unfold low
    rw [toNat_ofNat (by omega)]
    exact this
  rw [ascii_encs h2]
  conv => lhs; rw [e]
  rw [fold_of_encs hs, List.map_map, List.map_map]
  congr 1
  apply List.map_congr_left
  intro c hc
  have := smallN_ascii (h c hc)
  simp only [Function.comp, low]
  rw [toNat_ofNat (by omega)]
theorem ascii_odd {l : List UInt8} (h : ∀ b ∈ l, b.toNat < 128) (k : Nat) (hk : k ≤ l.length) : vals (l.take k ++ (128 :: l.drop k)) = false ∧ cnt (l.take k ++ (128 :: l.drop k)) = l.length + 1 := by
  have h1 : ∀ b ∈ l.take k, b.toNat < 128 := fun b hb => h b (List.mem_of_mem_take hb)
  have h2 : ∀ b ∈ l.drop k, b.toNat < 128 := fun b hb => h b (List.mem_of_mem_drop hb)
  have e1 := ascii_encs h1
  have s1 := ascii_sc h1
  have hb : dec (128 :: l.drop k) = (0xFFFD, 1) := dec_later _ (by decide) (by decide)
  constructor
  · rw [e1, vals_part s1]
    exact vals_later _ (by decide) (by decide)
  · have hc := (ascii_all h2).2.1
    unfold cnt at hc ⊢
    rw [e1, runes_encs _ _ s1, runes_bad hb, List.length_append, List.length_cons, hc]
    simp
    omega

/-! ### The program's own test of a broken byte -/
theorem prefix_bad {l : List UInt8} (hl : l ≠ []) : ((dec l).1 == 0xFFFD && !Lib.hasPrefix l [239, 191, 189]) = bad (dec l) := by
  have hF : enc 0xFFFD = [239, 191, 189] := by decide
  have hp : Lib.hasPrefix l [239, 191, 189] = true ↔ ∃ t, l = enc 0xFFFD ++ t := by
    unfold Lib.hasPrefix
    rw [hF, List.isPrefixOf_iff_prefix]
    exact ⟨fun ⟨t, h⟩ => ⟨t, h.symm⟩, fun ⟨t, h⟩ => ⟨t, h.symm⟩⟩
  have hsF : sc 0xFFFD := .inr (by omega)
  rcases dec_cases hl with hb | ⟨r, t, hs, e, hd⟩
  · have : Lib.hasPrefix l [239, 191, 189] = false := by
      cases hx : Lib.hasPrefix l [239, 191, 189] with
      | false => rfl
      | true =>
        obtain ⟨t, ht⟩ := hp.1 hx
        rw [ht] at hb
        exact absurd hb (bad_no hsF t)
    rw [hb, this]
    rfl
  · rw [hd, not_bad hs]
    by_cases hr : r = 0xFFFD
    · subst hr
      rw [hp.2 ⟨t, e⟩]
      rfl
    · simp [hr]

end Go.Proofs.Ytahbaifbihpppaa.UtSpec

namespace Go.Proofs.Ytahbaifbihpppaa.LbSpec
open Go UtSpec Less

abbrev Lab := List UInt8 × List UInt8
def letter (c : UInt8) : Bool := (decide (97 ≤ c.toNat) && decide (c.toNat ≤ 122)) || decide (c.toNat = 95)
def digit (c : UInt8) : Bool := decide (48 ≤ c.toNat) && decide (c.toNat ≤ 57)
def nameOk : List UInt8 → Bool
  | [] => false
  | c :: t => letter c && t.all (fun c => letter c || digit c) && decide (t.length ≤ 31)
/-- What is wrong with a label: 0, if nothing is. -/
def lerr (x : Lab) : Nat := if nameOk x.1 = true then if 256 < x.2.length then 4 else if vals x.2 = true then 0 else 8 else 6
def firstErr : List Lab → Nat
  | [] => 0
  | x :: l => if lerr x = 0 then firstErr l else lerr x
def put (x : Lab) : List Lab → List Lab
  | [] => [x]
  | y :: l => if less y.1 x.1 = true then y :: put x l else x :: y :: l
def sort (l : List Lab) : List Lab := l.foldl (fun o x => put x o) []
def dup (l : List Lab) : Bool := decide (¬ (l.map Prod.fst).Nodup)
def canon (l : List Lab) : Nat × List Lab :=
  if 16 < l.length then (3, []) else if firstErr l ≠ 0 then (firstErr l, []) else if dup l = true then (6, []) else (0, sort l)
def find (l : List Lab) (n : List UInt8) : Option (List UInt8) := (l.find? fun x => x.1 == n).map Prod.snd
def ltL (x y : Lab) : Bool := less x.1 y.1 || (x.1 == y.1 && less x.2 y.2)
def cmp : List Lab → List Lab → Int
  | [], [] => 0
  | [], _ :: _ => -1
  | _ :: _, [] => 1
  | x :: a, y :: b => if x = y then cmp a b else if ltL x y = true then -1 else 1

/-! ### The order -/
theorem ltL_irrefl (x : Lab) : ltL x x = false := by unfold ltL; rw [less_irrefl, less_irrefl]; simp
theorem ltL_trans {x y z : Lab} (h : ltL x y = true) (h' : ltL y z = true) : ltL x z = true := by
  unfold ltL at *
  simp only [Bool.or_eq_true, Bool.and_eq_true, beq_iff_eq] at *
  rcases h with h | ⟨e, h⟩
  · rcases h' with h' | ⟨e', h'⟩
    · exact .inl (less_trans h h')
    · exact .inl (e' ▸ h)
  · rcases h' with h' | ⟨e', h'⟩
    · exact .inl (e ▸ h')
    · exact .inr ⟨e.trans e', less_trans h h'⟩
theorem ltL_total {x y : Lab} (h : x ≠ y) : ltL x y = true ∨ ltL y x = true := by
  unfold ltL
  simp only [Bool.or_eq_true, Bool.and_eq_true, beq_iff_eq]
  by_cases e : x.1 = y.1
  · have h2 : x.2 ≠ y.2 := fun e2 => h (Prod.ext e e2)
    rcases less_total h2 with h3 | h3
    · exact .inl (.inr ⟨e, h3⟩)
    · exact .inr (.inr ⟨e.symm, h3⟩)
  · rcases less_total e with h3 | h3
    · exact .inl (.inl h3)
    · exact .inr (.inl h3)
theorem ltL_asym {x y : Lab} (h : ltL x y = true) : ltL y x = false := by
  cases e : ltL y x with
  | false => rfl
  | true => have := ltL_trans h e; rw [ltL_irrefl] at this; cases this
theorem cmp_self : ∀ a : List Lab, cmp a a = 0
  | [] => rfl
  | x :: a => by rw [cmp, if_pos rfl]; exact cmp_self a
theorem cmp_range : ∀ a b : List Lab, cmp a b = -1 ∨ cmp a b = 0 ∨ cmp a b = 1
  | [], [] => by simp [cmp]
  | [], _ :: _ => by simp [cmp]
  | _ :: _, [] => by simp [cmp]
  | x :: a, y :: b => by
    rw [cmp]
    split
    · exact cmp_range a b
    · split <;> simp
theorem cmp_turn : ∀ a b : List Lab, cmp b a = - cmp a b
  | [], [] => rfl
  | [], _ :: _ => rfl
  | _ :: _, [] => rfl
  | x :: a, y :: b => by
    rw [cmp, cmp]
    by_cases e : x = y
    · subst e
      rw [if_pos rfl, if_pos rfl]
      exact cmp_turn a b
    · rw [if_neg e, if_neg (fun h => e h.symm)]
      rcases ltL_total e with h | h
      · rw [if_pos h, if_neg (by rw [ltL_asym h]; decide)]
        decide
      · rw [if_pos h, if_neg (by rw [ltL_asym h]; decide)]
theorem cmp_eq : ∀ {a b : List Lab}, cmp a b = 0 ↔ a = b
  | [], [] => by simp [cmp]
  | [], _ :: _ => by simp [cmp]
  | _ :: _, [] => by simp [cmp]
  | x :: a, y :: b => by
    rw [cmp]
    by_cases e : x = y
    · rw [if_pos e, cmp_eq]
      simp [e]
    · rw [if_neg e]
      constructor
      · intro h
        split at h <;> omega
      · intro h
        exact absurd (List.cons.inj h).1 e
theorem cmp_le : ∀ {a b c : List Lab}, cmp a b ≤ 0 → cmp b c ≤ 0 → cmp a c ≤ 0
  | [], _, [] => by simp [cmp]
  | [], _, _ :: _ => by simp [cmp]
  | _ :: _, [], _ => fun h _ => by simp [cmp] at h
  | _ :: _, _ :: _, [] => fun _ h => by simp [cmp] at h
  | x :: a, y :: b, z :: c => fun h h' => by
    rw [cmp] at h h' ⊢
    by_cases e : x = y
    · rw [if_pos e] at h
      subst e
      by_cases e2 : x = z
      · rw [if_pos e2] at h' ⊢
        exact cmp_le h h'
      · rw [if_neg e2] at h' ⊢
        exact h'
    · rw [if_neg e] at h
      have hxy : ltL x y = true := by
        by_cases h9 : ltL x y = true
        · exact h9
        · rw [if_neg h9] at h; omega
      by_cases e2 : y = z
      · subst e2
        rw [if_neg e, if_pos hxy]
        omega
      · rw [if_neg e2] at h'
        have hyz : ltL y z = true := by
          by_cases h9 : ltL y z = true
          · exact h9
          · rw [if_neg h9] at h'; omega
        have hxz := ltL_trans hxy hyz
        have e3 : x ≠ z := fun e3 => by subst e3; rw [ltL_irrefl] at hxz; cases hxz
        rw [if_neg e3, if_pos hxz]
        omega
theorem cmp_ge {a b c : List Lab} (h : 0 ≤ cmp a b) (h' : 0 ≤ cmp b c) : 0 ≤ cmp a c := by
  have h1 := cmp_turn a b
  have h2 := cmp_turn b c
  have h3 := cmp_turn a c
  have := cmp_le (a := c) (b := b) (c := a) (by omega) (by omega)
  omega

/-! ### The canonical list -/
def Asc (l : List Lab) : Prop := l.Pairwise fun a b => less a.1 b.1 = true
theorem mem_put {x z : Lab} : ∀ {l : List Lab}, z ∈ put x l ↔ z = x ∨ z ∈ l
  | [] => by simp [put]
  | y :: l => by
    rw [put]
    split
    · rw [List.mem_cons, mem_put, List.mem_cons]
      constructor
      · rintro (h | h | h)
        · exact .inr (.inl h)
        · exact .inl h
        · exact .inr (.inr h)
      · rintro (h | h | h)
        · exact .inr (.inl h)
        · exact .inl h
        · exact .inr (.inr h)
    · simp
theorem put_perm (x : Lab) : ∀ l : List Lab, (put x l).Perm (x :: l)
  | [] => List.Perm.refl _
  | y :: l => by
    rw [put]
    split
    · exact ((put_perm x l).cons y).trans (List.Perm.swap x y l)
    · exact List.Perm.refl _
theorem put_length (x : Lab) (l : List Lab) : (put x l).length = l.length + 1 := (put_perm x l).length_eq
theorem asc_put {x : Lab} : ∀ {l : List Lab}, Asc l → (∀ y ∈ l, y.1 ≠ x.1) → Asc (put x l)
  | [], _, _ => by unfold Asc; simp [put]
  | y :: l, h, hn => by
    unfold Asc at h ⊢
    rw [List.pairwise_cons] at h
    rw [put]
    split
    · rename_i hy
      rw [List.pairwise_cons]
      refine ⟨fun z hz => ?_, asc_put h.2 fun z hz => hn z (List.mem_cons_of_mem _ hz)⟩
      rcases mem_put.1 hz with rfl | hz
      · exact hy
      · exact h.1 z hz
    · rename_i hy
      have hxy : less x.1 y.1 = true := by
        rcases less_total (hn y (by simp)) with h3 | h3
        · exact absurd h3 hy
        · exact h3
      rw [List.pairwise_cons, List.pairwise_cons]
      refine ⟨fun z hz => ?_, h⟩
      rcases List.mem_cons.1 hz with rfl | hz
      · exact hxy
      · exact less_trans hxy (h.1 z hz)
theorem foldl_perm : ∀ (l o : List Lab), (l.foldl (fun o x => put x o) o).Perm (o ++ l)
  | [], o => by simp
  | x :: l, o => by
    rw [List.foldl_cons]
    refine (foldl_perm l (put x o)).trans ?_
    refine ((put_perm x o).append_right l).trans ?_
    rw [List.cons_append]
    exact List.perm_middle.symm
theorem sort_perm (l : List Lab) : (sort l).Perm l := by
  have h := foldl_perm l []
  rw [List.nil_append] at h
  exact h
theorem sort_length (l : List Lab) : (sort l).length = l.length := (sort_perm l).length_eq
theorem foldl_asc : ∀ (l o : List Lab), Asc o → (l.map Prod.fst).Nodup → (∀ x ∈ l, ∀ y ∈ o, y.1 ≠ x.1) → Asc (l.foldl (fun o x => put x o) o)
  | [], o, h, _, _ => h
  | x :: l, o, h, hd, hn => by
    rw [List.map_cons, List.nodup_cons] at hd
    rw [List.foldl_cons]
    refine foldl_asc l _ (asc_put h (hn x (by simp))) hd.2 fun z hz y hy => ?_
    rcases mem_put.1 hy with rfl | hy
    · exact fun e => hd.1 (e ▸ List.mem_map_of_mem hz)
    · exact hn z (List.mem_cons_of_mem _ hz) y hy
theorem sort_asc {l : List Lab} (h : (l.map Prod.fst).Nodup) : Asc (sort l) := foldl_asc l [] (by unfold Asc; simp) h (by simp)
theorem asc_nodup {l : List Lab} (h : Asc l) : (l.map Prod.fst).Nodup := by
  unfold List.Nodup
  rw [List.pairwise_map]
  exact h.imp fun {a b} h e => by rw [e, less_irrefl] at h; cases h
theorem asc_ext {a b : List Lab} (ha : Asc a) (hb : Asc b) (h : a.Perm b) : a = b := by
  unfold Asc at ha hb
  exact List.Perm.eq_of_pairwise (le := fun x y => less x.1 y.1 = true) (fun x y _ _ h1 h2 => by have := less_trans h1 h2; rw [less_irrefl] at this; cases this) ha hb h
theorem sort_self {l : List Lab} (h : Asc l) : sort l = l := asc_ext (sort_asc (asc_nodup h)) h (sort_perm l)
theorem sort_of_perm {l m : List Lab} (h : l.Perm m) (hd : (l.map Prod.fst).Nodup) : sort l = sort m :=
  asc_ext (sort_asc hd) (sort_asc ((h.map _).nodup_iff.1 hd)) ((sort_perm l).trans (h.trans (sort_perm m).symm))
theorem firstErr_zero {l : List Lab} : firstErr l = 0 ↔ ∀ x ∈ l, lerr x = 0 := by
  induction l with
  | nil => simp [firstErr]
  | cons x l ih =>
    rw [firstErr]
    by_cases h : lerr x = 0
    · rw [if_pos h, ih]
      simp [h]
    · rw [if_neg h]
      simp [h]
/-- A list that may be. -/
structure May (l : List Lab) : Prop where
  few : l.length ≤ 16
  each : ∀ x ∈ l, lerr x = 0
  nodup : (l.map Prod.fst).Nodup
theorem May.perm {l m : List Lab} (h : May l) (hp : l.Perm m) : May m := ⟨hp.length_eq ▸ h.few, fun x hx => h.each x (hp.mem_iff.2 hx), (hp.map _).nodup_iff.1 h.nodup⟩
theorem canon_may {l : List Lab} (h : May l) : canon l = (0, sort l) := by
  unfold canon dup
  rw [if_neg (by have := h.few; omega), if_neg (by simpa using firstErr_zero.2 h.each), if_neg (by simpa using h.nodup)]
theorem canon_not {l : List Lab} (h : ¬ May l) : (canon l).1 ≠ 0 ∧ (canon l).2 = [] := by
  unfold canon
  split
  · simp
  · rename_i h1
    split
    · rename_i h2
      exact ⟨h2, rfl⟩
    · rename_i h2
      split
      · simp
      · rename_i h3
        unfold dup at h3
        simp at h2 h3
        exact absurd ⟨by omega, firstErr_zero.1 h2, h3⟩ h
theorem may_iff {l : List Lab} : May l ↔ (canon l).1 = 0 := by
  constructor
  · intro h; rw [canon_may h]
  · intro h
    by_cases hm : May l
    · exact hm
    · exact absurd h (canon_not hm).1
/-- A canonical list. -/
theorem canon_self {l : List Lab} (h : May l) (ha : Asc l) : canon l = (0, l) := by rw [canon_may h, sort_self ha]
theorem may_sort {l : List Lab} (h : May l) : May (sort l) ∧ Asc (sort l) := ⟨h.perm (sort_perm l).symm, sort_asc h.nodup⟩
theorem canon_turn {l m : List Lab} (hp : l.Perm m) : ((canon l).1 = 0 ↔ (canon m).1 = 0) ∧ (canon l).2 = (canon m).2 := by
  by_cases h : May l
  · have hm := h.perm hp
    rw [canon_may h, canon_may hm]
    exact ⟨by simp, sort_of_perm hp h.nodup⟩
  · have hm : ¬ May m := fun hm => h (hm.perm hp.symm)
    refine ⟨⟨fun e => absurd e (canon_not h).1, fun e => absurd e (canon_not hm).1⟩, ?_⟩
    rw [(canon_not h).2, (canon_not hm).2]

/-! ### What is found -/
theorem find_mem : ∀ {l : List Lab}, (l.map Prod.fst).Nodup → ∀ {x : Lab}, x ∈ l → find l x.1 = some x.2
  | y :: l, hd, x, hx => by
    rw [List.map_cons, List.nodup_cons] at hd
    unfold find
    rw [List.find?_cons]
    by_cases e : y.1 = x.1
    · rw [show (y.1 == x.1) = true by simpa using e]
      rcases List.mem_cons.1 hx with rfl | hx
      · rfl
      · exact absurd (e ▸ List.mem_map_of_mem hx) hd.1
    · rw [show (y.1 == x.1) = false by simpa using e]
      rcases List.mem_cons.1 hx with rfl | hx
      · exact absurd rfl e
      · exact find_mem hd.2 hx
theorem find_none {l : List Lab} {n : List UInt8} : find l n = none ↔ n ∉ l.map Prod.fst := by
  unfold find
  rw [Option.map_eq_none_iff, List.find?_eq_none, List.mem_map]
  constructor
  · rintro h ⟨x, hx, rfl⟩
    exact h x hx (by simp)
  · intro h x hx e
    exact h ⟨x, hx, by simpa using e⟩
/-- A label more, put where it belongs. -/
def posL (n : List UInt8) (l : List Lab) : Nat := (l.takeWhile fun y => less y.1 n).length
theorem put_at (x : Lab) : ∀ l : List Lab, put x l = l.take (posL x.1 l) ++ x :: l.drop (posL x.1 l)
  | [] => rfl
  | y :: l => by
    rw [put]
    unfold posL
    rw [List.takeWhile_cons]
    split
    · rename_i h
      rw [List.length_cons, List.take_succ_cons, List.drop_succ_cons, List.cons_append, put_at x l]
      rfl
    · rename_i h
      rfl
theorem posL_le (n : List UInt8) (l : List Lab) : posL n l ≤ l.length := (List.takeWhile_prefix _).length_le
theorem sort_snoc (l : List Lab) (x : Lab) : sort (l ++ [x]) = put x (sort l) := by unfold sort; rw [List.foldl_append]; rfl
end Go.Proofs.Ytahbaifbihpppaa.LbSpec

namespace Go.Proofs.Ytahbaifbihpppaa.LbText
open Go UtSpec Less LbSpec

def esc1 (b : UInt8) : List UInt8 := if b = 34 ∨ b = 92 then [92, b] else if b = 10 then [92, 110] else [b]
def esc (v : List UInt8) : List UInt8 := v.flatMap esc1
def one (x : Lab) : List UInt8 := x.1 ++ (61 :: 34 :: (esc x.2 ++ [34]))
def body : List Lab → List UInt8
  | [] => []
  | x :: l => one x ++ (if l = [] then [] else 44 :: body l)
def write (l : List Lab) : List UInt8 := 123 :: (body l ++ [125])
/-- A name, and what is behind its =". -/
def nm : List UInt8 → Option (List UInt8 × List UInt8)
  | [] => none
  | c :: t => if c = 61 ∧ t.head? = some 34 then some ([], t.tail) else (nm t).map fun p => (c :: p.1, p.2)
/-- A value, and what is behind its closing quote. -/
def un : List UInt8 → Option (List UInt8 × List UInt8)
  | [] => none
  | c :: t => if c = 34 then some ([], t) else if c = 10 then none else if c = 92 then (match t with
      | [] => none
      | d :: t' => if d = 34 ∨ d = 92 then (un t').map fun p => (d :: p.1, p.2) else if d = 110 then (un t').map fun p => (10 :: p.1, p.2) else none)
    else (un t).map fun p => (c :: p.1, p.2)
def oneR (t : List UInt8) : Option (Lab × List UInt8) :=
  match nm t with
  | none => none
  | some (n, r) => if n.contains 32 = true then none else match un r with
    | none => none
    | some (v, r') => some ((n, v), r')
def itemsF : Nat → List UInt8 → Option (List Lab × List UInt8)
  | 0, _ => none
  | f + 1, t => match oneR t with
    | none => none
    | some (x, r) => if r.head? = some 44 then (itemsF f r.tail).map fun p => (x :: p.1, p.2) else some ([x], r)
def parse (s : List UInt8) : Option (List Lab) :=
  if s = [123, 125] then some [] else if s.head? = some 123 then (match itemsF s.length s.tail with
    | none => none
    | some (l, r) => if r = [125] then some l else none) else none
def read (s : List UInt8) : Nat × List Lab :=
  match parse s with
  | none => (6, [])
  | some l => if (canon l).1 ≠ 0 then ((canon l).1, []) else if cmp (canon l).2 l ≠ 0 then (6, []) else (0, (canon l).2)

theorem un_one (c : UInt8) : un [c] = if c = 34 then some ([], []) else none := by
  rw [un.eq_def]
  simp only []
  split
  · rfl
  · split
    · rfl
    · split
      · rfl
      · rfl
theorem un_quote (t : List UInt8) : un (34 :: t) = some ([], t) := by
  cases t with
  | nil => rfl
  | cons d t => rw [un.eq_def]; rfl
theorem un_two (c d : UInt8) (t : List UInt8) : un (c :: d :: t) = if c = 34 then some ([], d :: t) else if c = 10 then none else if c = 92 then (if d = 34 ∨ d = 92 then (un t).map fun p => (d :: p.1, p.2) else if d = 110 then (un t).map fun p => (10 :: p.1, p.2) else none) else (un (d :: t)).map fun p => (c :: p.1, p.2) := by
  rw [un.eq_def]
theorem un_plain {c : UInt8} (h1 : c ≠ 34) (h2 : c ≠ 10) (h3 : c ≠ 92) (t : List UInt8) : un (c :: t) = (un t).map fun p => (c :: p.1, p.2) := by
  cases t with
  | nil => rw [un_one, if_neg h1]; rfl
  | cons d t => rw [un_two, if_neg h1, if_neg h2, if_neg h3]
theorem esc_cons (c : UInt8) (v : List UInt8) : esc (c :: v) = esc1 c ++ esc v := by simp [esc]
theorem un_esc : ∀ (v r : List UInt8), un (esc v ++ 34 :: r) = some (v, r)
  | [], r => by rw [show esc [] = [] from rfl, List.nil_append, un_quote]
  | c :: v, r => by
    have ih := un_esc v r
    rw [esc_cons, List.append_assoc]
    unfold esc1
    split
    · rename_i h
      rw [List.cons_append, List.cons_append, List.nil_append, un_two, if_neg (by decide), if_neg (by decide), if_pos rfl, if_pos h, ih]
      rfl
    · rename_i h
      rw [not_or] at h
      split
      · rename_i h2
        subst h2
        rw [List.cons_append, List.cons_append, List.nil_append, un_two, if_neg (by decide), if_neg (by decide), if_pos rfl, if_neg (by decide), if_pos rfl, ih]
        rfl
      · rename_i h2
        rw [List.cons_append, List.nil_append, un_plain h.1 h2 h.2, ih]
        rfl
theorem un_inv : ∀ (t : List UInt8) {v r : List UInt8}, un t = some (v, r) → t = esc v ++ 34 :: r
  | [], v, r, h => by simp [un] at h
  | [c], v, r, h => by
    rw [un_one] at h
    split at h
    · rename_i hc
      simp at h
      obtain ⟨rfl, rfl⟩ := h
      rw [hc]
      rfl
    · cases h
  | c :: d :: t, v, r, h => by
    rw [un_two] at h
    split at h
    · rename_i hc
      simp at h
      obtain ⟨rfl, rfl⟩ := h
      rw [hc]
      rfl
    · rename_i hc
      split at h
      · cases h
      · rename_i hc2
        split at h
        · rename_i hc3
          split at h
          · rename_i hd
            rw [Option.map_eq_some_iff] at h
            obtain ⟨p, hp, he⟩ := h
            obtain ⟨rfl, rfl⟩ := Prod.mk.inj he
            rw [un_inv t hp, esc_cons, hc3]
            unfold esc1
            rw [if_pos hd]
            rfl
          · split at h
            · rename_i hd2
              rw [Option.map_eq_some_iff] at h
              obtain ⟨p, hp, he⟩ := h
              obtain ⟨rfl, rfl⟩ := Prod.mk.inj he
              rw [un_inv t hp, esc_cons, hc3, hd2]
              rfl
            · cases h
        · rename_i hc3
          rw [Option.map_eq_some_iff] at h
          obtain ⟨p, hp, he⟩ := h
          obtain ⟨rfl, rfl⟩ := Prod.mk.inj he
          rw [un_inv (d :: t) hp, esc_cons]
          unfold esc1
          rw [if_neg (by simp [hc, hc3]), if_neg hc2]
          rfl
theorem nm_inv : ∀ (t : List UInt8) {n r : List UInt8}, nm t = some (n, r) → t = n ++ 61 :: 34 :: r
  | [], n, r, h => by simp [nm] at h
  | c :: t, n, r, h => by
    rw [nm] at h
    split at h
    · rename_i hc
      simp at h
      obtain ⟨rfl, rfl⟩ := h
      obtain ⟨h1, h2⟩ := hc
      cases t with
      | nil => simp at h2
      | cons d t =>
        simp at h2
        rw [h1, h2]
        rfl
    · rw [Option.map_eq_some_iff] at h
      obtain ⟨p, hp, he⟩ := h
      obtain ⟨rfl, rfl⟩ := Prod.mk.inj he
      rw [nm_inv t hp]
      rfl
theorem nm_of : ∀ {n : List UInt8}, (∀ c ∈ n, c ≠ 61) → ∀ r, nm (n ++ 61 :: 34 :: r) = some (n, r)
  | [], _, r => by simp [nm]
  | c :: n, h, r => by
    rw [List.cons_append, nm, if_neg (fun e => h c (by simp) e.1), nm_of (fun x hx => h x (by simp [hx])) r]
    rfl
theorem one_inv {t r : List UInt8} {x : Lab} (h : oneR t = some (x, r)) : t = one x ++ r := by
  unfold oneR at h
  cases hn : nm t with
  | none => simp [hn] at h
  | some p =>
    obtain ⟨n, r1⟩ := p
    rw [hn] at h
    simp only [] at h
    by_cases h32 : n.contains 32 = true
    · rw [if_pos h32] at h
      cases h
    rw [if_neg h32] at h
    cases hu : un r1 with
    | none => simp [hu] at h
    | some q =>
      obtain ⟨v, r2⟩ := q
      rw [hu] at h
      simp at h
      obtain ⟨rfl, rfl⟩ := h
      rw [nm_inv t hn, un_inv r1 hu]
      simp [one]
theorem one_of {x : Lab} (h : ∀ c ∈ x.1, c ≠ 61 ∧ c ≠ 32) (r : List UInt8) : oneR (one x ++ r) = some (x, r) := by
  have e : one x ++ r = x.1 ++ 61 :: 34 :: (esc x.2 ++ 34 :: r) := by simp [one]
  unfold oneR
  rw [e, nm_of (fun c hc => (h c hc).1)]
  simp only []
  rw [if_neg (by rw [List.contains_iff_mem]; exact fun hm => (h 32 hm).2 rfl), un_esc]
theorem items_inv : ∀ (f : Nat) {t : List UInt8} {l : List Lab} {r : List UInt8}, itemsF f t = some (l, r) → l ≠ [] ∧ t = body l ++ r
  | 0, t, l, r, h => by simp [itemsF] at h
  | f + 1, t, l, r, h => by
    rw [itemsF] at h
    cases ho : oneR t with
    | none => simp [ho] at h
    | some p =>
      obtain ⟨x, r1⟩ := p
      rw [ho] at h
      simp only [] at h
      have h1 := one_inv ho
      split at h
      · rename_i hc
        rw [Option.map_eq_some_iff] at h
        obtain ⟨q, hq, he⟩ := h
        obtain ⟨l2, r2⟩ := q
        obtain ⟨rfl, rfl⟩ := Prod.mk.inj he
        obtain ⟨hl, ht⟩ := items_inv f hq
        refine ⟨by simp, ?_⟩
        rw [h1, body, if_neg hl]
        cases r1 with
        | nil => simp at hc
        | cons c r1 =>
          simp at hc ht
          rw [hc, ht]
          simp
      · simp at h
        obtain ⟨rfl, rfl⟩ := h
        refine ⟨by simp, ?_⟩
        rw [h1]
        simp [body]
theorem one_len (x : Lab) : 3 ≤ (one x).length := by simp [one]; omega
theorem items_of : ∀ (f : Nat) {l : List Lab} {r : List UInt8}, l ≠ [] → (∀ x ∈ l, ∀ c ∈ x.1, c ≠ 61 ∧ c ≠ 32) → r.head? ≠ some 44 → l.length ≤ f → itemsF f (body l ++ r) = some (l, r)
  | 0, l, r, hl, _, _, hf => absurd (List.eq_nil_of_length_eq_zero (by omega)) hl
  | f + 1, [], r, hl, _, _, _ => absurd rfl hl
  | f + 1, x :: l, r, _, hn, hr, hf => by
    rw [itemsF, body, List.append_assoc, one_of (hn x (by simp))]
    simp only []
    by_cases e : l = []
    · subst e
      rw [if_pos rfl, List.nil_append, if_neg hr]
    · rw [if_neg e, List.cons_append, List.head?_cons, if_pos rfl, List.tail_cons, items_of f e (fun y hy => hn y (by simp [hy])) hr (by simp at hf; omega)]
      rfl
theorem body_len : ∀ l : List Lab, l.length ≤ (body l).length
  | [] => Nat.zero_le _
  | x :: l => by
    rw [body, List.length_append, List.length_cons]
    have h1 := one_len x
    have h2 := body_len l
    by_cases e : l = []
    · subst e
      simp
      omega
    · rw [if_neg e, List.length_cons]
      omega
theorem write_len (l : List Lab) : (write l).length = (body l).length + 2 := by unfold write; simp
theorem parse_inv {s : List UInt8} {l : List Lab} (h : parse s = some l) : write l = s := by
  unfold parse at h
  split at h
  · rename_i hs
    simp at h
    subst h
    rw [hs]
    rfl
  · split at h
    · rename_i hc
      cases hi : itemsF s.length s.tail with
      | none => simp [hi] at h
      | some p =>
        obtain ⟨l2, r⟩ := p
        rw [hi] at h
        simp only [] at h
        split at h
        · rename_i hr
          simp at h
          subst h
          obtain ⟨_, ht⟩ := items_inv _ hi
          cases s with
          | nil => simp at hc
          | cons c s =>
            simp at hc ht
            rw [write, hc, ht, hr]
        · cases h
    · cases h
theorem parse_of {l : List Lab} (hn : ∀ x ∈ l, ∀ c ∈ x.1, c ≠ 61 ∧ c ≠ 32) : parse (write l) = some l := by
  unfold parse
  by_cases e : l = []
  · subst e
    rfl
  · have hb := body_len l
    have h0 : 0 < l.length := List.length_pos_iff.2 e
    rw [if_neg, if_pos (by simp [write])]
    · have h1 : itemsF (write l).length (write l).tail = some (l, [125]) := items_of _ (r := [125]) e hn (by decide) (by unfold write; simp; omega)
      rw [h1]
      simp
    · intro h
      have h3 := congrArg List.length h
      rw [write_len] at h3
      have h4 : 3 ≤ (body l).length := by
        cases l with
        | nil => exact absurd rfl e
        | cons x l =>
          rw [body, List.length_append]
          have := one_len x
          omega
      rw [show ([123, 125] : List UInt8).length = 2 from rfl] at h3
      omega
theorem name_no {n : List UInt8} (h : nameOk n = true) : ∀ c ∈ n, c ≠ 61 ∧ c ≠ 32 := by
  cases n with
  | nil => simp
  | cons a t =>
    unfold nameOk at h
    simp only [Bool.and_eq_true, List.all_eq_true] at h
    have key : ∀ c : UInt8, (letter c || digit c) = true → c ≠ 61 ∧ c ≠ 32 := by
      intro c hc
      constructor
      · intro e
        subst e
        revert hc
        decide
      · intro e
        subst e
        revert hc
        decide
    intro c hc
    rcases List.mem_cons.1 hc with rfl | hc
    · exact key c (by rw [h.1.1]; rfl)
    · exact key c (h.1.2 c hc)
theorem lerr_name {x : Lab} (h : lerr x = 0) : nameOk x.1 = true := by
  unfold lerr at h
  split at h
  · assumption
  · cases h
theorem may_names {l : List Lab} (h : May l) : ∀ x ∈ l, ∀ c ∈ x.1, c ≠ 61 ∧ c ≠ 32 := fun x hx => name_no (lerr_name (h.each x hx))
theorem read_back {c : List Lab} (h : May c) (ha : Asc c) : read (write c) = (0, c) := by
  unfold read
  rw [parse_of (may_names h)]
  simp only []
  rw [canon_self h ha, if_neg (by simp), if_neg (by simp [cmp_self])]
theorem read_ok {s : List UInt8} (h : (read s).1 = 0) : write (read s).2 = s ∧ May (read s).2 ∧ Asc (read s).2 := by
  unfold read at h ⊢
  cases hp : parse s with
  | none => rw [hp] at h; cases h
  | some l =>
    rw [hp] at h
    simp only [] at h ⊢
    split at h
    · rename_i h1
      exact absurd h h1
    · rename_i h1
      rw [if_neg h1]
      split at h
      · cases h
      · rename_i h2
        rw [if_neg h2]
        have hm : May l := may_iff.2 (by omega)
        have e : (canon l).2 = l := cmp_eq.1 (by omega)
        have e2 : (canon l).2 = sort l := by rw [canon_may hm]
        simp only []
        have e3 : sort l = l := e2.symm.trans e
        rw [e]
        exact ⟨parse_inv hp, hm, by rw [← e3]; exact (may_sort hm).2⟩
theorem write_inj {c m : List Lab} (hc : May c) (hm : May m) (h : write c = write m) : c = m := by
  have h1 := parse_of (may_names hc)
  have h2 := parse_of (may_names hm)
  rw [h, h2] at h1
  exact (Option.some.inj h1).symm
theorem read_not {s : List UInt8} (h : (read s).1 ≠ 0) : (read s).2 = [] := by
  unfold read at h ⊢
  cases hp : parse s with
  | none => rfl
  | some l =>
    rw [hp] at h
    simp only [] at h ⊢
    split at h
    · rename_i h1
      rw [if_pos h1]
    · rename_i h1
      rw [if_neg h1]
      split at h
      · rename_i h2
        rw [if_pos h2]
      · exact absurd rfl h
end Go.Proofs.Ytahbaifbihpppaa.LbText

namespace Go.Proofs.Ytahbaifbihpppaa.Plain
open Go

/-- A number read: k bytes are behind us, they say acc. The number, how many bytes it has in all, the error. -/
def dec (k acc : Nat) : List UInt8 → Nat × Nat × Nat
  | [] => (0, 0, 5)
  | c :: r =>
    if k = 9 ∧ 1 < c.toNat then (0, 0, 6)
    else if 128 ≤ c.toNat then dec (k + 1) (acc + c.toNat % 128 * 128 ^ k) r
    else if c.toNat = 0 ∧ 0 < k then (0, 0, 6)
    else (acc + c.toNat * 128 ^ k, k + 1, 0)

/-- A number read at a place. -/
def getN (l : List UInt8) (at_ : Int) : Int := if at_ < 0 ∨ (l.length : Int) < at_ then 0 else ((dec 0 0 (l.drop at_.toNat)).1 : Int)
def getE (l : List UInt8) (at_ : Int) : Int := if at_ < 0 ∨ (l.length : Int) < at_ then 1 else ((dec 0 0 (l.drop at_.toNat)).2.2 : Int)
def getTo (l : List UInt8) (at_ : Int) : Int := if at_ < 0 ∨ (l.length : Int) < at_ then 0 else if (dec 0 0 (l.drop at_.toNat)).2.2 = 0 then at_ + ((dec 0 0 (l.drop at_.toNat)).2.1 : Int) else 0

theorem drop_cons {l : List UInt8} {k : Nat} (h : k < l.length) : l.drop k = l[k] :: l.drop (k + 1) := List.drop_eq_getElem_cons h

section
variable {l : List UInt8} {k acc : Nat}
theorem dec_end (h : l.length ≤ k) : dec k acc (l.drop k) = (0, 0, 5) := by rw [List.drop_eq_nil_of_le h]; rfl
theorem dec_ten (h : k < l.length) (h9 : k = 9) (hc : 1 < l[k].toNat) : dec k acc (l.drop k) = (0, 0, 6) := by
  rw [drop_cons h, dec, if_pos ⟨h9, hc⟩]
theorem dec_more (h : k < l.length) (h9 : ¬ (k = 9 ∧ 1 < l[k].toNat)) (hc : 128 ≤ l[k].toNat) : dec k acc (l.drop k) = dec (k + 1) (acc + l[k].toNat % 128 * 128 ^ k) (l.drop (k + 1)) := by
  rw [drop_cons h, dec, if_neg h9, if_pos hc]
theorem dec_zero (h : k < l.length) (hc : l[k].toNat = 0) (hk : 0 < k) : dec k acc (l.drop k) = (0, 0, 6) := by
  rw [drop_cons h, dec, if_neg (by omega), if_neg (by omega), if_pos ⟨hc, hk⟩]
theorem dec_last (h : k < l.length) (h9 : ¬ (k = 9 ∧ 1 < l[k].toNat)) (hc : l[k].toNat < 128) (h0 : ¬ (l[k].toNat = 0 ∧ 0 < k)) : dec k acc (l.drop k) = (acc + l[k].toNat * 128 ^ k, k + 1, 0) := by
  rw [drop_cons h, dec, if_neg h9, if_neg (by omega), if_neg h0]
end

/-- 'n | c << 7k' is a sum. -/
theorem or_shl (k acc c : Nat) (hk : k ≤ 9) (hacc : acc < 128 ^ k) (hc : c < 128) (h9 : k = 9 → c ≤ 1) :
    bits .or .u64 (acc : Int) ((c * 128 ^ k : Nat) : Int) = ((acc + c * 128 ^ k : Nat) : Int) ∧ acc + c * 128 ^ k < 18446744073709551616 ∧ (k < 9 → acc + c * 128 ^ k < 128 ^ (k + 1)) := by
  have hs : k = 0 ∨ k = 1 ∨ k = 2 ∨ k = 3 ∨ k = 4 ∨ k = 5 ∨ k = 6 ∨ k = 7 ∨ k = 8 ∨ k = 9 := by omega
  rcases hs with rfl | rfl | rfl | rfl | rfl | rfl | rfl | rfl | rfl | rfl
  · simp only [Nat.pow_zero, Nat.mul_one] at hacc ⊢
    refine ⟨?_, by omega, by omega⟩
    rw [u64_orv0 _ _ (by omega) (by omega) (by omega) (by omega) (by omega)]; omega
  · simp only [Nat.reducePow, Nat.reduceAdd] at hacc ⊢
    refine ⟨?_, by omega, by omega⟩
    rw [u64_orv7 _ _ (by omega) (by omega) (by omega) (by omega) (by omega)]; omega
  · simp only [Nat.reducePow, Nat.reduceAdd] at hacc ⊢
    refine ⟨?_, by omega, by omega⟩
    rw [u64_orv14 _ _ (by omega) (by omega) (by omega) (by omega) (by omega)]; omega
  · simp only [Nat.reducePow, Nat.reduceAdd] at hacc ⊢
    refine ⟨?_, by omega, by omega⟩
    rw [u64_orv21 _ _ (by omega) (by omega) (by omega) (by omega) (by omega)]; omega
  · simp only [Nat.reducePow, Nat.reduceAdd] at hacc ⊢
    refine ⟨?_, by omega, by omega⟩
    rw [u64_orv28 _ _ (by omega) (by omega) (by omega) (by omega) (by omega)]; omega
  · simp only [Nat.reducePow, Nat.reduceAdd] at hacc ⊢
    refine ⟨?_, by omega, by omega⟩
    rw [u64_orv35 _ _ (by omega) (by omega) (by omega) (by omega) (by omega)]; omega
  · simp only [Nat.reducePow, Nat.reduceAdd] at hacc ⊢
    refine ⟨?_, by omega, by omega⟩
    rw [u64_orv42 _ _ (by omega) (by omega) (by omega) (by omega) (by omega)]; omega
  · simp only [Nat.reducePow, Nat.reduceAdd] at hacc ⊢
    refine ⟨?_, by omega, by omega⟩
    rw [u64_orv49 _ _ (by omega) (by omega) (by omega) (by omega) (by omega)]; omega
  · simp only [Nat.reducePow, Nat.reduceAdd] at hacc ⊢
    refine ⟨?_, by omega, by omega⟩
    rw [u64_orv56 _ _ (by omega) (by omega) (by omega) (by omega) (by omega)]; omega
  · simp only [Nat.reducePow, Nat.reduceAdd] at hacc ⊢
    refine ⟨?_, by omega, by omega⟩
    rw [u64_orv63 _ _ (by omega) (by omega) (by omega) (by omega) (by omega)]; omega

theorem uv_more : ∀ (i n : Nat), i + 1 < (Lib.uvarint n).length → 128 ≤ ((Lib.uvarint n).getD i 0).toNat
  | 0, n, h => by
    by_cases hn : n < 128
    · rw [Lib.uvarint_small hn] at h; simp at h
    · rw [Lib.uvarint_big (by omega)]; simp; omega
  | i + 1, n, h => by
    by_cases hn : n < 128
    · rw [Lib.uvarint_small hn] at h; simp at h
    · rw [Lib.uvarint_big (by omega)] at h ⊢
      exact uv_more i (n / 128) (by simpa using h)
theorem uv_last : ∀ (k n : Nat), (Lib.uvarint n).length = k + 1 → ((Lib.uvarint n).getD k 0).toNat < 128 ∧ (((Lib.uvarint n).getD k 0).toNat = 0 → n = 0)
  | 0, n, h => by
    by_cases hn : n < 128
    · rw [Lib.uvarint_small hn]; simp; omega
    · rw [Lib.uvarint_big (by omega)] at h
      have := Lib.uvarint_pos (n / 128)
      rw [List.length_cons] at h; omega
  | k + 1, n, h => by
    by_cases hn : n < 128
    · rw [Lib.uvarint_small hn] at h; simp at h
    · rw [Lib.uvarint_big (by omega)] at h ⊢
      have := uv_last k (n / 128) (by simpa using h)
      refine ⟨this.1, fun h0 => ?_⟩
      have := this.2 h0
      omega
/-- How many bytes: k are counted, m is left. -/
def left_ (m : Nat) : Nat := if m = 0 then 0 else (Lib.uvarint m).length
theorem left_step (m : Nat) (h : m ≠ 0) : left_ m = 1 + left_ (m / 128) := by
  unfold left_
  rw [if_neg h]
  by_cases hm : m < 128
  · rw [Lib.uvarint_small hm, if_pos (by omega)]; rfl
  · rw [Lib.uvarint_big (by omega), if_neg (by omega)]; simp; omega
theorem uv_left (n : Nat) : (Lib.uvarint n).length = 1 + left_ (n / 128) := by
  by_cases h : n = 0
  · subst h; rw [Lib.uvarint_small (by omega)]; rfl
  · rw [← left_step n h]; unfold left_; rw [if_neg h]
theorem left_zero : left_ 0 = 0 := rfl
theorem left_pos (m : Nat) (h : m ≠ 0) : 0 < left_ m := by rw [left_step m h]; omega

/-- The shortest forms, one behind the other. -/
def encs (l : List UInt64) : List UInt8 := l.flatMap fun n => Lib.uvarint n.toNat
theorem encs_length (l : List UInt64) : (encs l).length ≤ 10 * l.length := by
  induction l with
  | nil => simp [encs]
  | cons a r ih =>
    have h := Lib.uvarint_length64 (x := a.toNat) a.toNat_lt
    simp only [encs, List.flatMap_cons, List.length_append, List.length_cons] at ih ⊢
    omega
theorem encs_one (n : UInt64) : encs [n] = Lib.uvarint n.toNat := by simp [encs]
theorem encs_snoc {l : List UInt64} {k : Nat} (h : k < l.length) : encs (l.take (k + 1)) = encs (l.take k) ++ Lib.uvarint l[k].toNat := by
  rw [List.take_succ_eq_append_getElem h, encs, List.flatMap_append]
  simp [encs]

theorem andNot128_all : ∀ a : Fin 256, bits .andNot .u8 ((a.val : Nat) : Int) 128 = ((a.val % 128 : Nat) : Int) := by decide +kernel
theorem andNot128 (x : Nat) (h : x < 256) : bits .andNot .u8 (x : Int) 128 = ((x % 128 : Nat) : Int) := andNot128_all ⟨x, h⟩
theorem two_pow7 (k : Nat) : (2 : Int) ^ (7 * k) = ((128 ^ k : Nat) : Int) := by
  rw [Int.pow_mul]; simp
/-- 'n |= uint64(c&^more) << (sevens * i)'. -/
theorem step_val (k acc x : Nat) (E : Int) (hE : E = 2 ^ (7 * k)) (hk : k ≤ 9) (hacc : acc < 128 ^ k) (hx : x < 256) (h9 : k = 9 → x ≤ 1) :
    bits .or .u64 (acc : Int) (IntKind.u64.wrap (IntKind.u64.wrap (bits .andNot .u8 (x : Int) 128) * E)) = ((acc + x % 128 * 128 ^ k : Nat) : Int) := by
  have h := or_shl k acc (x % 128) hk hacc (by omega) (by omega)
  rw [andNot128 x hx, hE, two_pow7, IntKind.wrap_u64, IntKind.wrap_u64]
  have e1 : ((x % 128 : Nat) : Int) % 18446744073709551616 = ((x % 128 : Nat) : Int) := by omega
  have e2 : (((x % 128 : Nat) : Int) * ((128 ^ k : Nat) : Int)) % 18446744073709551616 = ((x % 128 * 128 ^ k : Nat) : Int) := by
    rw [← Int.natCast_mul]
    have := h.2.1
    generalize x % 128 * 128 ^ k = y at *
    omega
  rw [e1, e2, h.1]

/-- 'n + uint64(c%128)*unit', and the next unit. -/
theorem step_ref (k acc x : Nat) (hk : k ≤ 9) (hacc : acc < 128 ^ k) (h9 : k = 9 → x ≤ 1) :
    IntKind.u64.wrap ((acc : Int) + IntKind.u64.wrap ((x : Int) % 128 * ((128 ^ k : Nat) : Int))) = ((acc + x % 128 * 128 ^ k : Nat) : Int) := by
  rw [show (x : Int) % 128 = ((x % 128 : Nat) : Int) by omega]
  have h := or_shl k acc (x % 128) hk hacc (by omega) (by omega)
  rw [IntKind.wrap_u64, IntKind.wrap_u64, ← Int.natCast_mul]
  have := h.2.1
  generalize x % 128 * 128 ^ k = y at *
  omega
theorem unit_ref (k : Nat) (hk : k < 9) : IntKind.u64.wrap (((128 ^ k : Nat) : Int) * 128) = ((128 ^ (k + 1) : Nat) : Int) := by
  have h : 128 ^ (k + 1) ≤ 128 ^ 9 := Nat.pow_le_pow_right (by omega) (by omega)
  have e : 128 ^ (k + 1) = 128 ^ k * 128 := Nat.pow_succ ..
  rw [IntKind.wrap_u64, e]
  simp only [Nat.reducePow] at h
  omega

/-- A number that is written and read again, whatever stands behind it. -/
theorem dec_uvarint : ∀ (m : Nat) (k acc x : Nat) (r : List UInt8), m = 9 - k → k ≤ 9 → x * 128 ^ k < 18446744073709551616 → (0 < k → 0 < x) →
    dec k acc (Lib.uvarint x ++ r) = (acc + x * 128 ^ k, k + (Lib.uvarint x).length, 0) := by
  intro m
  induction m with
  | zero =>
    intro k acc x r hm hk hx hpos
    obtain rfl : k = 9 := by omega
    have hx1 : x ≤ 1 := by simp only [Nat.reducePow] at hx; omega
    have : x = 1 := by have := hpos (by omega); omega
    subst this
    rw [Lib.uvarint_small (by omega)]
    simp [dec]
  | succ m ih =>
    intro k acc x r hm hk hx hpos
    by_cases h : x < 128
    · rw [Lib.uvarint_small h]
      have e : x.toUInt8.toNat = x := by simp; omega
      simp only [List.cons_append, List.nil_append, dec, e, List.length_singleton]
      rw [if_neg (by omega), if_neg (by omega), if_neg (by have := hpos; omega)]
    · rw [Lib.uvarint_big (by omega)]
      have e : (x % 128 + 128).toUInt8.toNat = x % 128 + 128 := by simp; omega
      simp only [List.cons_append, dec, e, List.length_cons]
      rw [if_neg (by omega), if_pos (by omega)]
      have hd := Nat.div_add_mod x 128
      have hp : 128 ^ (k + 1) = 128 * 128 ^ k := by rw [Nat.pow_succ, Nat.mul_comm]
      have hq : x / 128 * 128 ^ (k + 1) ≤ x * 128 ^ k := by
        rw [hp, ← Nat.mul_assoc]
        exact Nat.mul_le_mul_right _ (by omega)
      rw [ih (k + 1) _ (x / 128) r (by omega) (by omega) (by omega) (by omega)]
      have h1 : (x % 128 + 128) % 128 = x % 128 := by omega
      have h2 : acc + x % 128 * 128 ^ k + x / 128 * 128 ^ (k + 1) = acc + x * 128 ^ k := by
        rw [hp, ← Nat.mul_assoc, Nat.add_assoc, ← Nat.add_mul]
        congr 2
        omega
      rw [h1, h2]
      simp only [Prod.mk.injEq, and_true, true_and]
      omega

/-- Each shorter beginning is too short. -/
theorem dec_short : ∀ (k acc x : Nat) (j : Nat), x * 128 ^ k < 18446744073709551616 → k ≤ 9 → j < (Lib.uvarint x).length → dec k acc ((Lib.uvarint x).take j) = (0, 0, 5) := by
  intro k acc x j
  induction j generalizing k acc x with
  | zero => intro _ _ _; simp [dec]
  | succ j ih =>
    intro hx hk hj
    by_cases h : x < 128
    · rw [Lib.uvarint_small h] at hj; simp at hj
    · rw [Lib.uvarint_big (by omega)] at hj ⊢
      have e : (x % 128 + 128).toUInt8.toNat = x % 128 + 128 := by simp; omega
      have hp : 128 ^ (k + 1) = 128 * 128 ^ k := by rw [Nat.pow_succ, Nat.mul_comm]
      have hq : x / 128 * 128 ^ (k + 1) ≤ x * 128 ^ k := by
        rw [hp, ← Nat.mul_assoc]
        exact Nat.mul_le_mul_right _ (by omega)
      have h9 : k ≠ 9 := by
        rintro rfl
        simp only [Nat.reducePow] at hx
        omega
      simp only [List.take_succ_cons, dec, e]
      rw [if_neg (by omega), if_pos (by omega)]
      exact ih (k + 1) _ (x / 128) (by omega) (by omega) (by simpa using hj)

/-- What is read is written as the bytes that were read. -/
theorem dec_back : ∀ (l : List UInt8) (k acc n c : Nat), k ≤ 9 → acc < 128 ^ k → dec k acc l = (n, c, 0) →
    ∃ x, n = acc + x * 128 ^ k ∧ c = k + (Lib.uvarint x).length ∧ (Lib.uvarint x).length ≤ l.length ∧ l.take (Lib.uvarint x).length = Lib.uvarint x ∧ (0 < k → 0 < x) ∧ n < 18446744073709551616 := by
  intro l
  induction l with
  | nil => intro k acc n c _ _ h; simp [dec] at h
  | cons b r ih =>
    intro k acc n c hk hacc h
    have hb := b.toNat_lt
    rw [dec] at h
    by_cases h9 : k = 9 ∧ 1 < b.toNat
    · rw [if_pos h9] at h; simp at h
    rw [if_neg h9] at h
    by_cases hc : 128 ≤ b.toNat
    · rw [if_pos hc] at h
      have hk9 : k < 9 := by omega
      have hs := (or_shl k acc (b.toNat % 128) hk hacc (by omega) (by omega)).2.2 hk9
      obtain ⟨x, h1, h2, h3, h4, h5, h6⟩ := ih (k + 1) _ n c (by omega) hs h
      have hx := h5 (by omega)
      have hp : 128 ^ (k + 1) = 128 * 128 ^ k := by rw [Nat.pow_succ, Nat.mul_comm]
      refine ⟨b.toNat % 128 + 128 * x, ?_, ?_, ?_, ?_, by omega, h6⟩
      · rw [h1, hp, Nat.add_mul, ← Nat.mul_assoc, Nat.mul_comm x 128]
        omega
      all_goals
        rw [Lib.uvarint_big (by omega)]
        have e1 : (b.toNat % 128 + 128 * x) / 128 = x := by omega
        have e2 : (b.toNat % 128 + 128 * x) % 128 + 128 = b.toNat := by omega
        rw [e1, e2]
        simp only [List.length_cons]
      · omega
      · omega
      · rw [List.take_succ_cons, h4]
        simp
    · rw [if_neg hc] at h
      by_cases h0 : b.toNat = 0 ∧ 0 < k
      · rw [if_pos h0] at h; simp at h
      rw [if_neg h0] at h
      simp only [Prod.mk.injEq, and_true] at h
      have hs := or_shl k acc b.toNat hk hacc (by omega) (by omega)
      refine ⟨b.toNat, h.1.symm, ?_, ?_, ?_, by omega, by rw [← h.1]; exact hs.2.1⟩ <;> rw [Lib.uvarint_small (by omega)]
      · simp; omega
      · simp
      · simp

theorem dec_lt {l : List UInt8} : (dec 0 0 l).1 < 18446744073709551616 := by
  suffices h : ∀ (l : List UInt8) (k acc : Nat), k ≤ 9 → acc < 128 ^ k → (dec k acc l).1 < 18446744073709551616 from h l 0 0 (by omega) (by decide)
  intro l
  induction l with
  | nil => intro k acc _ _; simp [dec]
  | cons b r ih =>
    intro k acc hk hacc
    have hb := b.toNat_lt
    rw [dec]
    by_cases h9 : k = 9 ∧ 1 < b.toNat
    · rw [if_pos h9]; simp
    rw [if_neg h9]
    by_cases hc : 128 ≤ b.toNat
    · rw [if_pos hc]
      exact ih (k + 1) _ (by omega) ((or_shl k acc (b.toNat % 128) hk hacc (by omega) (by omega)).2.2 (by omega))
    · rw [if_neg hc]
      by_cases h0 : b.toNat = 0 ∧ 0 < k
      · rw [if_pos h0]; simp
      rw [if_neg h0]
      exact (or_shl k acc b.toNat hk hacc (by omega) (by omega)).2.1

/-- 'byte(n) | more'. -/
theorem or128 (x : Nat) : bits .or .u8 (IntKind.u8.wrap (x : Int)) 128 = (((x % 128 + 128).toUInt8.toNat : Nat) : Int) := by
  rw [IntKind.wrap_u8, Lib.u8_or128_any _ (by omega) (by omega)]
  simp
  omega
theorem or128' (x : Nat) : bits .or .u8 ((x : Int) % 256) 128 = (((x % 128 + 128).toUInt8.toNat : Nat) : Int) := by
  rw [← IntKind.wrap_u8, or128]
theorem toUInt8_small (x : Nat) (h : x < 128) : (x : Int) = ((x.toUInt8.toNat : Nat) : Int) := by
  simp
  omega
/-- 'byte(n)' of a small number. -/
theorem byte_small (x : Nat) (_h : x < 128) : IntKind.u8.wrap (x : Int) = ((x.toUInt8.toNat : Nat) : Int) := by
  rw [IntKind.wrap_u8]
  simp

end Go.Proofs.Ytahbaifbihpppaa.Plain

namespace Go.Proofs.Ytahbaifbihpppaa.RcSpec
open Go UtSpec Less LbSpec

structure Rec where
  time : Int
  seq : Nat
  labels : List Lab
  line : List UInt8
def zigN (n : Int) : Nat := if n < 0 then (-2 * n - 1).toNat else (2 * n).toNat
def zagN (u : Nat) : Int := if u % 2 = 0 then (u / 2 : Nat) else -((u / 2 : Nat) : Int) - 1
theorem zag_zigN (n : Int) : zagN (zigN n) = n := by unfold zagN zigN; split <;> split <;> omega
theorem zig_zagN (u : Nat) : zigN (zagN u) = u := by unfold zagN zigN; split <;> split <;> omega
def Time64 (t : Int) : Prop := -9223372036854775808 ≤ t ∧ t ≤ 9223372036854775807
theorem zig64 {t : Int} (h : Time64 t) : zigN t < 18446744073709551616 := by unfold Time64 at h; unfold zigN; split <;> omega
theorem zag64 {u : Nat} (h : u < 18446744073709551616) : Time64 (zagN u) := by unfold Time64 zagN; split <;> omega
def check (r : Rec) : Nat :=
  if (canon r.labels).1 ≠ 0 then (canon r.labels).1 else if cmp (canon r.labels).2 r.labels ≠ 0 then 6 else if 1024 < r.line.length then 4 else if vals r.line = true then 0 else 8
/-- A text as its length and its bytes; the bytes of labels; of a record. -/
def text (s : List UInt8) : List UInt8 := Lib.uvarint s.length ++ s
def putL : List Lab → List UInt8
  | [] => []
  | x :: l => text x.1 ++ (text x.2 ++ putL l)
def bytesR (r : Rec) : List UInt8 := Lib.uvarint (zigN r.time) ++ (Lib.uvarint r.seq ++ (Lib.uvarint r.labels.length ++ (putL r.labels ++ text r.line)))

/-! ### Reading: the error, what is read, what is left -/
def num (l : List UInt8) : Nat × Nat × List UInt8 := ((Plain.dec 0 0 l).2.2, (Plain.dec 0 0 l).1, l.drop (Plain.dec 0 0 l).2.1)
def txt (l : List UInt8) : Nat × List UInt8 × List UInt8 :=
  if (num l).1 ≠ 0 then ((num l).1, [], []) else if (num l).2.2.length < (num l).2.1 then (5, [], []) else (0, (num l).2.2.take (num l).2.1, (num l).2.2.drop (num l).2.1)
def labs : Nat → List UInt8 → Nat × List Lab × List UInt8
  | 0, l => (0, [], l)
  | k + 1, l =>
    if (txt l).1 ≠ 0 then ((txt l).1, [], []) else
    if (txt (txt l).2.2).1 ≠ 0 then ((txt (txt l).2.2).1, [], []) else
    if (labs k (txt (txt l).2.2).2.2).1 ≠ 0 then ((labs k (txt (txt l).2.2).2.2).1, [], []) else
    (0, ((txt l).2.1, (txt (txt l).2.2).2.1) :: (labs k (txt (txt l).2.2).2.2).2.1, (labs k (txt (txt l).2.2).2.2).2.2)
def none : Rec := ⟨0, 0, [], []⟩
def get (l : List UInt8) : Nat × Rec × List UInt8 :=
  if (num l).1 ≠ 0 then ((num l).1, none, []) else
  let l1 := (num l).2.2
  if (num l1).1 ≠ 0 then ((num l1).1, none, []) else
  let l2 := (num l1).2.2
  if (num l2).1 ≠ 0 then ((num l2).1, none, []) else
  if 16 < (num l2).2.1 then (3, none, []) else
  let q := labs (num l2).2.1 (num l2).2.2
  if q.1 ≠ 0 then (q.1, none, []) else
  if (txt q.2.2).1 ≠ 0 then ((txt q.2.2).1, none, []) else
  let r : Rec := ⟨zagN (num l).2.1, (num l1).2.1, q.2.1, (txt q.2.2).2.1⟩
  if check r ≠ 0 then (check r, none, []) else (0, r, (txt q.2.2).2.2)

/-! ### Numbers -/
theorem num_put {x : Nat} (h : x < 18446744073709551616) (r : List UInt8) : num (Lib.uvarint x ++ r) = (0, x, r) := by
  have hd := Plain.dec_uvarint 9 0 0 x r rfl (by omega) (by simpa using h) (by omega)
  unfold num
  rw [hd]
  simp
theorem num_cut {x : Nat} (h : x < 18446744073709551616) {j : Nat} (hj : j < (Lib.uvarint x).length) : (num ((Lib.uvarint x).take j)).1 = 5 := by
  unfold num
  rw [Plain.dec_short 0 0 x j (by simpa using h) (by omega) hj]
theorem num_inv {l r : List UInt8} {x : Nat} (h : num l = (0, x, r)) : l = Lib.uvarint x ++ r ∧ x < 18446744073709551616 := by
  unfold num at h
  simp only [Prod.mk.injEq] at h
  obtain ⟨h1, h2, h3⟩ := h
  obtain ⟨y, e1, e2, _, e4, _, e6⟩ := Plain.dec_back l 0 0 (Plain.dec 0 0 l).1 (Plain.dec 0 0 l).2.1 (by omega) (by decide) (by
    obtain ⟨a, b, c, e⟩ : ∃ a b c, Plain.dec 0 0 l = (a, b, c) := ⟨_, _, _, rfl⟩
    rw [e] at h1 ⊢
    simp only at h1
    rw [h1])
  have hy : y = x := by omega
  subst hy
  rw [e2, Nat.zero_add] at h3
  refine ⟨?_, by omega⟩
  conv => lhs; rw [← List.take_append_drop (Lib.uvarint y).length l, e4, h3]
theorem num_len {l : List UInt8} (h : (num l).1 = 0) : (num l).2.2.length ≤ l.length := by unfold num; simp

/-! ### Texts -/
theorem txt_put {s : List UInt8} (h : s.length < 18446744073709551616) (r : List UInt8) : txt (text s ++ r) = (0, s, r) := by
  unfold txt text
  rw [List.append_assoc, num_put h]
  simp
theorem take_app {a b : List UInt8} {j : Nat} : (a ++ b).take j = if j < a.length then a.take j else a ++ b.take (j - a.length) := by
  split
  · rename_i h
    rw [List.take_append_of_le_length (by omega)]
  · rename_i h
    rw [List.take_append, List.take_of_length_le (by omega)]
theorem txt_cut {s : List UInt8} (h : s.length < 18446744073709551616) {j : Nat} (hj : j < (text s).length) : (txt ((text s).take j)).1 = 5 := by
  unfold text at hj ⊢
  rw [take_app]
  split
  · rename_i h1
    have h2 := num_cut h h1
    unfold txt
    rw [if_pos (by rw [h2]; decide)]
    exact h2
  · rename_i h1
    unfold txt
    rw [num_put h]
    simp only []
    rw [if_neg (by decide), if_pos]
    rw [List.length_append] at hj
    rw [List.length_take]
    omega
theorem txt_inv {l s r : List UInt8} (h : txt l = (0, s, r)) : l = text s ++ r ∧ s.length < 18446744073709551616 := by
  unfold txt at h
  split at h
  · rename_i h1
    simp only [Prod.mk.injEq] at h
    exact absurd h.1 h1
  · rename_i h1
    split at h
    · simp at h
    · rename_i h2
      obtain ⟨n, r1, hn⟩ : ∃ n r1, num l = (0, n, r1) := ⟨(num l).2.1, (num l).2.2, by
        have : (num l).1 = 0 := by omega
        rw [← this]⟩
      rw [hn] at h h2
      simp only [Prod.mk.injEq, true_and] at h
      simp only at h2
      obtain ⟨rfl, rfl⟩ := h
      obtain ⟨hl, hx⟩ := num_inv hn
      have hlen : (r1.take n).length = n := by rw [List.length_take]; omega
      refine ⟨?_, by omega⟩
      unfold text
      rw [hlen, List.append_assoc, List.take_append_drop]
      exact hl

/-! ### Labels -/
def Len (l : List Lab) : Prop := ∀ x ∈ l, x.1.length < 18446744073709551616 ∧ x.2.length < 18446744073709551616
theorem labs_put : ∀ {l : List Lab}, Len l → ∀ r, labs l.length (putL l ++ r) = (0, l, r)
  | [], _, r => rfl
  | x :: l, h, r => by
    have h1 := (h x (by simp)).1
    have h2 := (h x (by simp)).2
    have ih := labs_put (l := l) (fun y hy => h y (by simp [hy])) r
    have e1 : txt (putL (x :: l) ++ r) = (0, x.1, text x.2 ++ (putL l ++ r)) := by
      rw [putL, List.append_assoc, List.append_assoc]
      exact txt_put h1 _
    rw [List.length_cons, labs, e1]
    simp only []
    rw [txt_put h2]
    simp only []
    rw [ih]
    simp
theorem labs_cut : ∀ {l : List Lab}, Len l → ∀ {j : Nat}, j < (putL l).length → (labs l.length ((putL l).take j)).1 = 5
  | [], _, j, hj => by simp [putL] at hj
  | x :: l, h, j, hj => by
    have h1 := (h x (by simp)).1
    have h2 := (h x (by simp)).2
    rw [putL] at hj ⊢
    rw [List.length_cons, labs, take_app]
    split
    · rename_i c1
      have e1 := txt_cut h1 c1
      rw [if_pos (by rw [e1]; decide)]
      exact e1
    · rename_i c1
      rw [txt_put h1]
      simp only []
      rw [if_neg (by decide), take_app]
      split
      · rename_i c2
        have e2 := txt_cut h2 c2
        rw [if_pos (by rw [e2]; decide)]
        exact e2
      · rename_i c2
        rw [txt_put h2]
        simp only []
        rw [if_neg (by decide)]
        have e3 := labs_cut (l := l) (fun y hy => h y (by simp [hy])) (j := j - (text x.1).length - (text x.2).length) (by
          rw [List.length_append, List.length_append] at hj
          omega)
        rw [if_pos (by rw [e3]; decide)]
        exact e3
theorem labs_inv : ∀ {k : Nat} {l : List UInt8} {x : List Lab} {r : List UInt8}, labs k l = (0, x, r) → l = putL x ++ r ∧ x.length = k ∧ Len x
  | 0, l, x, r, h => by
    simp [labs] at h
    obtain ⟨rfl, rfl⟩ := h
    exact ⟨rfl, rfl, fun y hy => by cases hy⟩
  | k + 1, l, x, r, h => by
    rw [labs] at h
    split at h
    · rename_i c; simp at h; exact absurd h.1 c
    · rename_i c1
      split at h
      · rename_i c; simp at h; exact absurd h.1 c
      · rename_i c2
        split at h
        · rename_i c; simp at h; exact absurd h.1 c
        · rename_i c3
          simp only [Prod.mk.injEq, true_and] at h
          obtain ⟨rfl, rfl⟩ := h
          have e1 : txt l = (0, (txt l).2.1, (txt l).2.2) := by rw [← (show (txt l).1 = 0 by omega)]
          have e2 : txt (txt l).2.2 = (0, (txt (txt l).2.2).2.1, (txt (txt l).2.2).2.2) := by conv => lhs; rw [show txt (txt l).2.2 = ((txt (txt l).2.2).1, (txt (txt l).2.2).2.1, (txt (txt l).2.2).2.2) from rfl, show (txt (txt l).2.2).1 = 0 by omega]
          obtain ⟨i1, l1⟩ := txt_inv e1
          obtain ⟨i2, l2⟩ := txt_inv e2
          generalize hq : txt (txt l).2.2 = q at *
          have e3 : labs k q.2.2 = (0, (labs k q.2.2).2.1, (labs k q.2.2).2.2) := by conv => lhs; rw [show labs k q.2.2 = ((labs k q.2.2).1, (labs k q.2.2).2.1, (labs k q.2.2).2.2) from rfl, show (labs k q.2.2).1 = 0 by omega]
          obtain ⟨i3, n3, l3⟩ := labs_inv e3
          refine ⟨?_, by simp [n3], fun y hy => ?_⟩
          · rw [putL, List.append_assoc, List.append_assoc, ← i3, ← i2]
            exact i1
          · rcases List.mem_cons.1 hy with rfl | hy
            · exact ⟨l1, l2⟩
            · exact l3 y hy

/-! ### Records -/
theorem nameOk_len {n : List UInt8} (h : nameOk n = true) : n.length ≤ 32 := by
  cases n with
  | nil => simp
  | cons c t =>
    unfold nameOk at h
    simp only [Bool.and_eq_true, decide_eq_true_eq] at h
    rw [List.length_cons]
    omega
theorem lerr_len {x : Lab} (h : lerr x = 0) : x.1.length ≤ 32 ∧ x.2.length ≤ 256 := by
  unfold lerr at h
  split at h
  · rename_i hn
    refine ⟨nameOk_len hn, ?_⟩
    split at h
    · cases h
    · omega
  · cases h
/-- A record that may be. -/
structure Ok (r : Rec) : Prop where
  may : May r.labels
  asc : Asc r.labels
  line : r.line.length ≤ 1024
  utf : vals r.line = true
theorem check_ok {r : Rec} : check r = 0 ↔ Ok r := by
  unfold check
  constructor
  · intro h
    split at h
    · rename_i c; exact absurd h c
    · rename_i c1
      have hm := may_iff.2 (show (canon r.labels).1 = 0 by omega)
      split at h
      · cases h
      · rename_i c2
        split at h
        · cases h
        · rename_i c3
          split at h
          · rename_i c4
            have e : (canon r.labels).2 = r.labels := cmp_eq.1 (by omega)
            have e2 : (canon r.labels).2 = sort r.labels := by rw [canon_may hm]
            refine ⟨hm, ?_, by omega, c4⟩
            rw [← e, e2]
            exact (may_sort hm).2
          · cases h
  · intro h
    rw [canon_self h.may h.asc]
    simp only [ne_eq, not_true_eq_false, if_false, cmp_self, h.utf, if_true]
    rw [if_neg (by have := h.line; omega)]
theorem Ok.len {r : Rec} (h : Ok r) : Len r.labels := fun x hx => by
  have := lerr_len (h.may.each x hx)
  omega
/-- What 64 bits hold. -/
def Fits (r : Rec) : Prop := Time64 r.time ∧ r.seq < 18446744073709551616
theorem get_put {r : Rec} (h : Ok r) (hf : Fits r) (l : List UInt8) : get (bytesR r ++ l) = (0, r, l) := by
  obtain ⟨ht, hs⟩ := hf
  have hn : r.labels.length < 18446744073709551616 := by have := h.may.few; omega
  have hl : r.line.length < 18446744073709551616 := by have := h.line; omega
  unfold get bytesR
  simp only [List.append_assoc]
  rw [num_put (zig64 ht)]
  simp only []
  rw [num_put hs]
  simp only []
  rw [num_put hn]
  simp only []
  rw [labs_put h.len]
  simp only []
  rw [txt_put hl]
  simp only []
  rw [if_neg (by decide), if_neg (by decide), if_neg (by decide), if_neg (by have := h.may.few; omega), if_neg (by decide), if_neg (by decide), zag_zigN]
  rw [if_neg]
  exact fun hne => hne (check_ok.2 h)
theorem get_cut {r : Rec} (h : Ok r) (hf : Fits r) {j : Nat} (hj : j < (bytesR r).length) : (get ((bytesR r).take j)).1 = 5 := by
  obtain ⟨ht, hs⟩ := hf
  have hn : r.labels.length < 18446744073709551616 := by have := h.may.few; omega
  have hl : r.line.length < 18446744073709551616 := by have := h.line; omega
  unfold bytesR at hj ⊢
  simp only [List.length_append] at hj
  unfold get
  rw [take_app]
  split
  · rename_i c
    have e := num_cut (zig64 ht) c
    rw [if_pos (by rw [e]; decide)]
    exact e
  · rename_i c1
    rw [num_put (zig64 ht)]
    simp only []
    rw [if_neg (by decide), take_app]
    split
    · rename_i c
      have e := num_cut hs c
      rw [if_pos (by rw [e]; decide)]
      exact e
    · rename_i c2
      rw [num_put hs]
      simp only []
      rw [if_neg (by decide), take_app]
      split
      · rename_i c
        have e := num_cut hn c
        rw [if_pos (by rw [e]; decide)]
        exact e
      · rename_i c3
        rw [num_put hn]
        simp only []
        rw [if_neg (by decide), if_neg (by have := h.may.few; omega), take_app]
        split
        · rename_i c
          have e := labs_cut h.len c
          rw [if_pos (by rw [e]; decide)]
          exact e
        · rename_i c4
          rw [labs_put h.len]
          simp only []
          rw [if_neg (by decide)]
          have e := txt_cut hl (j := j - (Lib.uvarint (zigN r.time)).length - (Lib.uvarint r.seq).length - (Lib.uvarint r.labels.length).length - (putL r.labels).length) (by omega)
          rw [if_pos (by rw [e]; decide)]
          exact e
theorem triple {α β : Type} {q : Nat × α × β} (h : q.1 = 0) : q = (0, q.2.1, q.2.2) := by
  obtain ⟨a, b, c⟩ := q
  simp only at h
  subst h
  rfl
theorem get_inv {l rest : List UInt8} {r : Rec} (h : get l = (0, r, rest)) : l = bytesR r ++ rest ∧ Ok r ∧ Fits r := by
  unfold get at h
  simp only [] at h
  split at h
  · rename_i c; simp at h; exact absurd h.1 c
  · rename_i c1
    split at h
    · rename_i c; simp at h; exact absurd h.1 c
    · rename_i c2
      split at h
      · rename_i c; simp at h; exact absurd h.1 c
      · rename_i c3
        split at h
        · simp at h
        · rename_i c4
          split at h
          · rename_i c; simp at h; exact absurd h.1 c
          · rename_i c5
            split at h
            · rename_i c; simp at h; exact absurd h.1 c
            · rename_i c6
              split at h
              · rename_i c; simp at h; exact absurd h.1 c
              · rename_i c7
                simp only [Prod.mk.injEq, true_and] at h
                obtain ⟨rfl, rfl⟩ := h
                have e1 := num_inv (triple (q := num l) (by omega))
                have e2 := num_inv (triple (q := num (num l).2.2) (by omega))
                have e3 := num_inv (triple (q := num (num (num l).2.2).2.2) (by omega))
                generalize num (num l).2.2 = n1 at *
                generalize hn0 : num l = n0 at *
                generalize num n1.2.2 = n2 at *
                have e4 := labs_inv (triple (q := labs n2.2.1 n2.2.2) (by omega))
                generalize labs n2.2.1 n2.2.2 = q at *
                have e5 := txt_inv (triple (q := txt q.2.2) (by omega))
                generalize txt q.2.2 = t at *
                refine ⟨?_, check_ok.1 (by omega), zag64 e1.2, e2.2⟩
                unfold bytesR
                simp only [zig_zagN, e4.2.1, List.append_assoc]
                rw [← e5.1, ← e4.1, ← e3.1, ← e2.1]
                exact e1.1
end Go.Proofs.Ytahbaifbihpppaa.RcSpec

namespace Go.Proofs.Ytahbaifbihpppaa.RcAll
open Go UtSpec Less LbSpec RcSpec

def many : List Rec → List UInt8
  | [] => []
  | r :: l => bytesR r ++ many l
def batch (l : List Rec) : List UInt8 := Lib.uvarint l.length ++ many l
def firstBad : List Rec → Nat
  | [] => 0
  | r :: l => if check r = 0 then firstBad l else check r
def put (r : Rec) : Nat × List UInt8 := if check r = 0 then (0, bytesR r) else (check r, [])
def putAll (l : List Rec) : Nat × List UInt8 := if 65536 < l.length then (3, []) else if firstBad l ≠ 0 then (firstBad l, []) else (0, batch l)
def recs : Nat → List UInt8 → Nat × List Rec × List UInt8
  | 0, l => (0, [], l)
  | k + 1, l =>
    if (get l).1 ≠ 0 then ((get l).1, [], []) else
    if (recs k (get l).2.2).1 ≠ 0 then ((recs k (get l).2.2).1, [], []) else
    (0, (get l).2.1 :: (recs k (get l).2.2).2.1, (recs k (get l).2.2).2.2)
def getAll (b : List UInt8) : Nat × List Rec :=
  if (num b).1 ≠ 0 then ((num b).1, []) else if 65536 < (num b).2.1 then (3, []) else
  if (recs (num b).2.1 (num b).2.2).1 ≠ 0 then ((recs (num b).2.1 (num b).2.2).1, []) else
  if (recs (num b).2.1 (num b).2.2).2.2 ≠ [] then (6, []) else (0, (recs (num b).2.1 (num b).2.2).2.1)

/-- A batch that may be. -/
structure All (l : List Rec) : Prop where
  few : l.length ≤ 65536
  ok : ∀ r ∈ l, Ok r
def Fit (l : List Rec) : Prop := ∀ r ∈ l, Fits r
theorem firstBad_zero {l : List Rec} : firstBad l = 0 ↔ ∀ r ∈ l, Ok r := by
  induction l with
  | nil => simp [firstBad]
  | cons r l ih =>
    rw [firstBad]
    by_cases h : check r = 0
    · rw [if_pos h, ih]
      simp [check_ok.1 h]
    · rw [if_neg h]
      constructor
      · intro e; exact absurd e h
      · intro e; exact absurd (check_ok.2 (e r (by simp))) h
theorem putAll_ok {l : List Rec} (h : All l) : putAll l = (0, batch l) := by
  unfold putAll
  rw [if_neg (by have := h.few; omega), if_neg (by rw [firstBad_zero.2 h.ok]; decide)]
theorem putAll_not {l : List Rec} (h : ¬ All l) : (putAll l).1 ≠ 0 ∧ (putAll l).2 = [] := by
  unfold putAll
  split
  · simp
  · rename_i h1
    split
    · rename_i h2
      exact ⟨h2, rfl⟩
    · rename_i h2
      exact absurd ⟨by omega, firstBad_zero.1 (by omega)⟩ h
theorem recs_put : ∀ {l : List Rec}, (∀ r ∈ l, Ok r) → Fit l → ∀ x, recs l.length (many l ++ x) = (0, l, x)
  | [], _, _, x => rfl
  | r :: l, h, hf, x => by
    rw [List.length_cons, recs, many, List.append_assoc, get_put (h r (by simp)) (hf r (by simp))]
    simp only []
    rw [recs_put (l := l) (fun y hy => h y (by simp [hy])) (fun y hy => hf y (by simp [hy]))]
    simp
theorem recs_cut : ∀ {l : List Rec}, (∀ r ∈ l, Ok r) → Fit l → ∀ {j : Nat}, j < (many l).length → (recs l.length ((many l).take j)).1 = 5
  | [], _, _, j, hj => by simp [many] at hj
  | r :: l, h, hf, j, hj => by
    rw [many] at hj ⊢
    rw [List.length_cons, recs, take_app]
    split
    · rename_i c
      have e := get_cut (h r (by simp)) (hf r (by simp)) c
      rw [if_pos (by rw [e]; decide)]
      exact e
    · rename_i c
      rw [get_put (h r (by simp)) (hf r (by simp))]
      simp only []
      rw [if_neg (by decide)]
      have e := recs_cut (l := l) (fun y hy => h y (by simp [hy])) (fun y hy => hf y (by simp [hy])) (j := j - (bytesR r).length) (by rw [List.length_append] at hj; omega)
      rw [if_pos (by rw [e]; decide)]
      exact e
theorem recs_inv : ∀ {k : Nat} {l : List UInt8} {x : List Rec} {t : List UInt8}, recs k l = (0, x, t) → l = many x ++ t ∧ x.length = k ∧ (∀ r ∈ x, Ok r) ∧ Fit x
  | 0, l, x, t, h => by
    simp [recs] at h
    obtain ⟨rfl, rfl⟩ := h
    exact ⟨rfl, rfl, (by intro r hr; cases hr), (by intro r hr; cases hr)⟩
  | k + 1, l, x, t, h => by
    rw [recs] at h
    split at h
    · rename_i c; simp at h; exact absurd h.1 c
    · rename_i c1
      split at h
      · rename_i c; simp at h; exact absurd h.1 c
      · rename_i c2
        simp only [Prod.mk.injEq, true_and] at h
        obtain ⟨rfl, rfl⟩ := h
        obtain ⟨i1, o1, f1⟩ := get_inv (triple (q := get l) (by omega))
        generalize get l = q at *
        obtain ⟨i2, n2, o2, f2⟩ := recs_inv (triple (q := recs k q.2.2) (by omega))
        refine ⟨?_, by simp [n2], fun y hy => ?_, fun y hy => ?_⟩
        · rw [many, List.append_assoc, ← i2]
          exact i1
        · rcases List.mem_cons.1 hy with rfl | hy
          · exact o1
          · exact o2 y hy
        · rcases List.mem_cons.1 hy with rfl | hy
          · exact f1
          · exact f2 y hy
theorem getAll_put {l : List Rec} (h : All l) (hf : Fit l) : getAll (batch l) = (0, l) := by
  have hn : l.length < 18446744073709551616 := by have := h.few; omega
  have e := recs_put h.ok hf []
  rw [List.append_nil] at e
  unfold getAll batch
  rw [num_put hn]
  simp only []
  rw [if_neg (by decide), if_neg (by have := h.few; omega), e]
  simp
theorem getAll_more {l : List Rec} (h : All l) (hf : Fit l) {x : List UInt8} (hx : x ≠ []) : (getAll (batch l ++ x)).1 = 6 := by
  have hn : l.length < 18446744073709551616 := by have := h.few; omega
  unfold getAll batch
  rw [List.append_assoc, num_put hn]
  simp only []
  rw [if_neg (by decide), if_neg (by have := h.few; omega), recs_put h.ok hf]
  simp [hx]
theorem getAll_cut {l : List Rec} (h : All l) (hf : Fit l) {j : Nat} (hj : j < (batch l).length) : (getAll ((batch l).take j)).1 = 5 := by
  have hn : l.length < 18446744073709551616 := by have := h.few; omega
  unfold batch at hj ⊢
  unfold getAll
  rw [take_app]
  split
  · rename_i c
    have e := num_cut hn c
    rw [if_pos (by rw [e]; decide)]
    exact e
  · rename_i c
    rw [num_put hn]
    simp only []
    rw [if_neg (by decide), if_neg (by have := h.few; omega)]
    have e := recs_cut h.ok hf (j := j - (Lib.uvarint l.length).length) (by rw [List.length_append] at hj; omega)
    rw [if_pos (by rw [e]; decide)]
    exact e
theorem getAll_inv {b : List UInt8} {l : List Rec} (h : getAll b = (0, l)) : b = batch l ∧ All l ∧ Fit l := by
  unfold getAll at h
  split at h
  · rename_i c; simp at h; exact absurd h.1 c
  · rename_i c1
    split at h
    · simp at h
    · rename_i c2
      split at h
      · rename_i c; simp at h; exact absurd h.1 c
      · rename_i c3
        split at h
        · simp at h
        · rename_i c4
          simp only [Prod.mk.injEq, true_and] at h
          subst h
          obtain ⟨i1, f1⟩ := num_inv (triple (q := num b) (by omega))
          generalize num b = q at *
          obtain ⟨i2, n2, o2, f2⟩ := recs_inv (triple (q := recs q.2.1 q.2.2) (by omega))
          have c5 : (recs q.2.1 q.2.2).2.2 = [] := by simpa using c4
          rw [c5, List.append_nil] at i2
          refine ⟨?_, ⟨by omega, o2⟩, f2⟩
          unfold batch
          rw [n2, ← i2]
          exact i1
theorem getAll_not {b : List UInt8} (h : (getAll b).1 ≠ 0) : (getAll b).2 = [] := by
  unfold getAll at h ⊢
  repeat' split
  all_goals first | rfl | (simp_all)
/-! ### The order -/
def cmpR (a b : Rec) : Int := if a.time < b.time ∨ (a.time = b.time ∧ a.seq < b.seq) then -1 else if a.time = b.time ∧ a.seq = b.seq then 0 else 1
theorem cmpR_turn (a b : Rec) : cmpR b a = - cmpR a b := by
  unfold cmpR
  split <;> split <;> (try split) <;> (try split) <;> omega
theorem cmpR_le {a b c : Rec} (h : cmpR a b ≤ 0) (h' : cmpR b c ≤ 0) : cmpR a c ≤ 0 := by
  unfold cmpR at *
  repeat' split at h
  all_goals repeat' split at h'
  all_goals repeat' split
  all_goals omega
theorem cmpR_ge {a b c : Rec} (h : 0 ≤ cmpR a b) (h' : 0 ≤ cmpR b c) : 0 ≤ cmpR a c := by
  have h1 := cmpR_turn a b
  have h2 := cmpR_turn b c
  have h3 := cmpR_turn a c
  have := cmpR_le (a := c) (b := b) (c := a) (by omega) (by omega)
  omega
end Go.Proofs.Ytahbaifbihpppaa.RcAll

