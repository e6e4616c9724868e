/- Plain: UTF-8 as lists of bytes: 'dec' (the rune at a text's beginning and its bytes' number: the model's own), 'enc' (a rune's bytes), 'runes', 'cnt', 'vals', 'fold', 'small', 'word', and what the statements of layer 6 reckon with them. No conditions. · Patterns in plain words: trees, their nodes, how a text of runes is parsed. Of no program. No conditions. · What a text is parsed to: its runes', or an error. Of no program. No conditions. · How patterns are parsed, in equations that ask nothing of lengths. Of no program. No conditions. -/
import GoSem.Core.Utf8
import Derived.Lib.RuneBytes
import Derived.Lib.Strings
import Derived.WalkKit
namespace Go.Proofs.Ytdmbgjpidlllcaa.UtSpec
open Go

def at' (l : List UInt8) (k : Nat) : Nat := (l.getD k 0).toNat
def cont (l : List UInt8) (k : Nat) : Bool := decide (k < l.length) && at' l k / 64 == 2
def okr (r : Nat) : Bool := decide (r < 0xD800) || (decide (0xE000 ≤ r) && decide (r ≤ 0x10FFFF))
def dec (l : List UInt8) : Nat × Nat :=
  if at' l 0 < 0x80 then (at' l 0, 1)
  else if at' l 0 / 32 == 6 && cont l 1 then
    (if (at' l 0 % 32) * 64 + at' l 1 % 64 ≥ 0x80 then ((at' l 0 % 32) * 64 + at' l 1 % 64, 2) else (0xFFFD, 1))
  else if at' l 0 / 16 == 14 && cont l 1 && cont l 2 then
    (if (at' l 0 % 16) * 4096 + (at' l 1 % 64) * 64 + at' l 2 % 64 ≥ 0x800 && okr ((at' l 0 % 16) * 4096 + (at' l 1 % 64) * 64 + at' l 2 % 64) then ((at' l 0 % 16) * 4096 + (at' l 1 % 64) * 64 + at' l 2 % 64, 3) else (0xFFFD, 1))
  else if at' l 0 / 8 == 30 && cont l 1 && cont l 2 && cont l 3 then
    (if (at' l 0 % 8) * 262144 + (at' l 1 % 64) * 4096 + (at' l 2 % 64) * 64 + at' l 3 % 64 ≥ 0x10000 && okr ((at' l 0 % 8) * 262144 + (at' l 1 % 64) * 4096 + (at' l 2 % 64) * 64 + at' l 3 % 64) then ((at' l 0 % 8) * 262144 + (at' l 1 % 64) * 4096 + (at' l 2 % 64) * 64 + at' l 3 % 64, 4) else (0xFFFD, 1))
  else (0xFFFD, 1)

theorem valid_okr (c : Nat) : Utf8.valid (c : Int) = okr c := by
  unfold Utf8.valid okr
  rw [Bool.eq_iff_iff]
  simp
  omega
theorem get_drop (s : ByteArray) (i k : Nat) : (s.get! (i + k)).toNat = at' (s.data.toList.drop i) k := by
  unfold at'
  rw [List.getD_eq_getElem?_getD, List.getElem?_drop]
  by_cases h : i + k < s.size
  · have h' : i + k < s.data.toList.length := by simpa using h
    rw [List.getElem?_eq_getElem h']
    simp [ByteArray.get!, getElem!_pos, h]
  · have h' : ¬ i + k < s.data.size := h
    rw [List.getElem?_eq_none (by simpa using h)]
    show (s.data[i + k]!).toNat = _
    rw [getElem!_neg s.data (i + k) h']
    rfl
theorem decode_dec (s : ByteArray) (i : Nat) : Utf8.decode s i = dec (s.data.toList.drop i) := by
  have hs : ∀ k, (decide (i + k < s.size)) = decide (k < (s.data.toList.drop i).length) := fun k => by
    rw [Bool.eq_iff_iff]
    simp
    have : s.data.size = s.size := rfl
    omega
  unfold Utf8.decode dec cont
  simp only [get_drop, hs, valid_okr, Utf8.runeError]

/-- A rune that UTF-8 has bytes for. -/
def sc (r : Nat) : Prop := r < 0xD800 ∨ (0xE000 ≤ r ∧ r ≤ 0x10FFFF)
theorem okr_sc {r : Nat} (h : okr r = true) : sc r := by unfold okr at h; simp at h; exact h
theorem sc_okr {r : Nat} (h : sc r) : okr r = true := by unfold okr; simp; exact h
def enc (r : Nat) : List UInt8 := Lib.encodeRune (r : Int)

theorem byte_eq {x : Int} {b : UInt8} (h : x = (b.toNat : Int)) : x.toNat.toUInt8 = b := by
  subst h
  simp
theorem toNat_ofNat {n : Nat} (h : n < 256) : (UInt8.ofNat n).toNat = n := by simp; omega
theorem enc_one {r : Nat} {b0 : UInt8} (h : r < 128) (h0 : b0.toNat = r) : enc r = [b0] := by
  unfold enc Lib.encodeRune
  rw [Lib.encodeRuneZ_one (by omega) (by omega)]
  simp only [List.map_cons, List.map_nil]
  rw [byte_eq (b := b0) (by omega)]
theorem enc_two {r : Nat} {b0 b1 : UInt8} (h : 128 ≤ r) (h' : r < 2048) (h0 : b0.toNat = 192 + r / 64) (h1 : b1.toNat = 128 + r % 64) : enc r = [b0, b1] := by
  unfold enc Lib.encodeRune
  rw [Lib.encodeRuneZ_two (by omega) (by omega)]
  simp only [List.map_cons, List.map_nil]
  rw [byte_eq (b := b0) (by omega), byte_eq (b := b1) (by omega)]
theorem enc_three {r : Nat} {b0 b1 b2 : UInt8} (hs : sc r) (h : 2048 ≤ r) (h' : r < 65536) (h0 : b0.toNat = 224 + r / 4096) (h1 : b1.toNat = 128 + r / 64 % 64) (h2 : b2.toNat = 128 + r % 64) : enc r = [b0, b1, b2] := by
  unfold sc at hs
  unfold enc Lib.encodeRune
  rw [Lib.encodeRuneZ_three (by omega)]
  simp only [List.map_cons, List.map_nil]
  rw [byte_eq (b := b0) (by omega), byte_eq (b := b1) (by omega), byte_eq (b := b2) (by omega)]
theorem enc_four {r : Nat} {b0 b1 b2 b3 : UInt8} (hs : sc r) (h : 65536 ≤ r) (h0 : b0.toNat = 240 + r / 262144) (h1 : b1.toNat = 128 + r / 4096 % 64) (h2 : b2.toNat = 128 + r / 64 % 64) (h3 : b3.toNat = 128 + r % 64) : enc r = [b0, b1, b2, b3] := by
  unfold sc at hs
  unfold enc Lib.encodeRune
  rw [Lib.encodeRuneZ_four (by omega) (by omega)]
  simp only [List.map_cons, List.map_nil]
  rw [byte_eq (b := b0) (by omega), byte_eq (b := b1) (by omega), byte_eq (b := b2) (by omega), byte_eq (b := b3) (by omega)]

/-- The bytes of a rune, told apart. -/
theorem enc_cases {r : Nat} (hs : sc r) :
    (∃ b0, enc r = [b0] ∧ r < 128 ∧ b0.toNat = r) ∨
    (∃ b0 b1, enc r = [b0, b1] ∧ 128 ≤ r ∧ r < 2048 ∧ b0.toNat = 192 + r / 64 ∧ b1.toNat = 128 + r % 64) ∨
    (∃ b0 b1 b2, enc r = [b0, b1, b2] ∧ 2048 ≤ r ∧ r < 65536 ∧ b0.toNat = 224 + r / 4096 ∧ b1.toNat = 128 + r / 64 % 64 ∧ b2.toNat = 128 + r % 64) ∨
    (∃ b0 b1 b2 b3, enc r = [b0, b1, b2, b3] ∧ 65536 ≤ r ∧ r ≤ 0x10FFFF ∧ b0.toNat = 240 + r / 262144 ∧ b1.toNat = 128 + r / 4096 % 64 ∧ b2.toNat = 128 + r / 64 % 64 ∧ b3.toNat = 128 + r % 64) := by
  have hs' := hs
  unfold sc at hs
  rcases Nat.lt_or_ge r 128 with h | h
  · exact .inl ⟨UInt8.ofNat r, enc_one h (toNat_ofNat (by omega)), h, toNat_ofNat (by omega)⟩
  rcases Nat.lt_or_ge r 2048 with h' | h'
  · have e0 := toNat_ofNat (n := 192 + r / 64) (by omega)
    have e1 := toNat_ofNat (n := 128 + r % 64) (by omega)
    exact .inr (.inl ⟨_, _, enc_two h h' e0 e1, h, h', e0, e1⟩)
  rcases Nat.lt_or_ge r 65536 with h2 | h2
  · have e0 := toNat_ofNat (n := 224 + r / 4096) (by omega)
    have e1 := toNat_ofNat (n := 128 + r / 64 % 64) (by omega)
    have e2 := toNat_ofNat (n := 128 + r % 64) (by omega)
    exact .inr (.inr (.inl ⟨_, _, _, enc_three hs' h' h2 e0 e1 e2, h', h2, e0, e1, e2⟩))
  · have e0 := toNat_ofNat (n := 240 + r / 262144) (by omega)
    have e1 := toNat_ofNat (n := 128 + r / 4096 % 64) (by omega)
    have e2 := toNat_ofNat (n := 128 + r / 64 % 64) (by omega)
    have e3 := toNat_ofNat (n := 128 + r % 64) (by omega)
    exact .inr (.inr (.inr ⟨_, _, _, _, enc_four hs' h2 e0 e1 e2 e3, h2, by omega, e0, e1, e2, e3⟩))

theorem enc_len {r : Nat} (hs : sc r) : 1 ≤ (enc r).length ∧ (enc r).length ≤ 4 ∧ ((enc r).length = 1 → r < 128) := by
  rcases enc_cases hs with ⟨b0, e, h, _⟩ | ⟨b0, b1, e, _⟩ | ⟨b0, b1, b2, e, _⟩ | ⟨b0, b1, b2, b3, e, _⟩ <;> rw [e] <;> simp
  exact h

/-- What begins with a rune's bytes is decoded as it. -/
theorem dec_enc {r : Nat} (hs : sc r) (t : List UInt8) : dec (enc r ++ t) = (r, (enc r).length) := by
  have hs' := sc_okr hs
  rcases enc_cases hs with ⟨b0, e, h, h0⟩ | ⟨b0, b1, e, h, h', h0, h1⟩ | ⟨b0, b1, b2, e, h, h', h0, h1, h2⟩ | ⟨b0, b1, b2, b3, e, h, h', h0, h1, h2, h3⟩
  · rw [e]
    unfold dec at'
    simp [h0, h]
  · rw [e]
    have c1 : cont ([b0, b1] ++ t) 1 = true := by unfold cont at'; simp; omega
    have d : (at' ([b0, b1] ++ t) 0) = 192 + r / 64 := by unfold at'; simpa using h0
    have d1 : (at' ([b0, b1] ++ t) 1) = 128 + r % 64 := by unfold at'; simpa using h1
    have q : ((192 + r / 64) % 32) * 64 + (128 + r % 64) % 64 = r := by omega
    have q1 : (192 + r / 64) / 32 = 6 := by omega
    unfold dec
    rw [d, d1, c1, q, q1, if_neg (by omega), if_pos (by decide), if_pos h]
    rfl
  · rw [e]
    have c1 : cont ([b0, b1, b2] ++ t) 1 = true := by unfold cont at'; simp; omega
    have c2 : cont ([b0, b1, b2] ++ t) 2 = true := by unfold cont at'; simp; omega
    have d : (at' ([b0, b1, b2] ++ t) 0) = 224 + r / 4096 := by unfold at'; simpa using h0
    have d1 : (at' ([b0, b1, b2] ++ t) 1) = 128 + r / 64 % 64 := by unfold at'; simpa using h1
    have d2 : (at' ([b0, b1, b2] ++ t) 2) = 128 + r % 64 := by unfold at'; simpa using h2
    have q : ((224 + r / 4096) % 16) * 4096 + ((128 + r / 64 % 64) % 64) * 64 + (128 + r % 64) % 64 = r := by omega
    have q0 : ((224 + r / 4096) / 32 == 6) = false := by simp; omega
    have q1 : (224 + r / 4096) / 16 = 14 := by omega
    unfold dec
    rw [d, d1, d2, c1, c2, q, q0, q1, if_neg (by omega), if_neg (by decide), if_pos (by decide), hs', if_pos (by simpa using h)]
    rfl
  · rw [e]
    have c1 : cont ([b0, b1, b2, b3] ++ t) 1 = true := by unfold cont at'; simp; omega
    have c2 : cont ([b0, b1, b2, b3] ++ t) 2 = true := by unfold cont at'; simp; omega
    have c3 : cont ([b0, b1, b2, b3] ++ t) 3 = true := by unfold cont at'; simp; omega
    have d : (at' ([b0, b1, b2, b3] ++ t) 0) = 240 + r / 262144 := by unfold at'; simpa using h0
    have d1 : (at' ([b0, b1, b2, b3] ++ t) 1) = 128 + r / 4096 % 64 := by unfold at'; simpa using h1
    have d2 : (at' ([b0, b1, b2, b3] ++ t) 2) = 128 + r / 64 % 64 := by unfold at'; simpa using h2
    have d3 : (at' ([b0, b1, b2, b3] ++ t) 3) = 128 + r % 64 := by unfold at'; simpa using h3
    have q : ((240 + r / 262144) % 8) * 262144 + ((128 + r / 4096 % 64) % 64) * 4096 + ((128 + r / 64 % 64) % 64) * 64 + (128 + r % 64) % 64 = r := by omega
    have q0 : ((240 + r / 262144) / 32 == 6) = false := by simp; omega
    have q1 : ((240 + r / 262144) / 16 == 14) = false := by simp; omega
    have q2 : (240 + r / 262144) / 8 = 30 := by omega
    unfold dec
    rw [d, d1, d2, d3, c1, c2, c3, q, q0, q1, q2, if_neg (by omega), if_neg (by decide), if_neg (by decide), if_pos (by decide), hs', if_pos (by simpa using h)]
    rfl

theorem cont_cons {l : List UInt8} {k : Nat} (h : cont l k = true) : k < l.length ∧ at' l k / 64 = 2 := by
  unfold cont at h
  simpa using h
theorem at_get {l : List UInt8} {k : Nat} (h : k < l.length) : at' l k = (l[k]).toNat := by unfold at'; simp [h]

/-- What stands at a text's beginning is a rune's bytes, or a byte that is part of none. -/
theorem dec_cases {l : List UInt8} (hl : l ≠ []) : dec l = (0xFFFD, 1) ∨ ∃ r t, sc r ∧ l = enc r ++ t ∧ dec l = (r, (enc r).length) := by
  obtain ⟨a, l, rfl⟩ := List.exists_cons_of_ne_nil hl
  have e0 : at' (a :: l) 0 = a.toNat := rfl
  have ha := a.toNat_lt
  have key : ∀ r t, sc r → a :: l = enc r ++ t → dec (a :: l) = (0xFFFD, 1) ∨ ∃ r t, sc r ∧ a :: l = enc r ++ t ∧ dec (a :: l) = (r, (enc r).length) :=
    fun r t h e => .inr ⟨r, t, h, e, by rw [e]; exact dec_enc h t⟩
  by_cases h0 : a.toNat < 128
  · exact key a.toNat l (.inl (by omega)) (by rw [enc_one h0 rfl]; rfl)
  by_cases h1 : (at' (a :: l) 0 / 32 == 6 && cont (a :: l) 1) = true
  · have h1' := h1
    rw [Bool.and_eq_true, e0, beq_iff_eq] at h1
    obtain ⟨h1, h2⟩ := h1
    obtain ⟨hk, hb⟩ := cont_cons h2
    obtain ⟨b, l, rfl⟩ : ∃ b l', l = b :: l' := by cases l with | nil => simp at hk | cons b l => exact ⟨b, l, rfl⟩
    have e1 : at' (a :: b :: l) 1 = b.toNat := rfl
    rw [e1] at hb
    by_cases h3 : (a.toNat % 32) * 64 + b.toNat % 64 ≥ 128
    · exact key ((a.toNat % 32) * 64 + b.toNat % 64) l (.inl (by omega)) (by rw [enc_two (b0 := a) (b1 := b) h3 (by omega) (by omega) (by omega)]; rfl)
    · left
      unfold dec
      rw [if_neg (by rw [e0]; exact h0), if_pos h1', if_neg (by rw [e0, e1]; exact h3)]
  by_cases h2 : (at' (a :: l) 0 / 16 == 14 && cont (a :: l) 1 && cont (a :: l) 2) = true
  · have h2' := h2
    rw [Bool.and_eq_true, Bool.and_eq_true, e0, beq_iff_eq] at h2
    obtain ⟨⟨h3, hc1⟩, hc2⟩ := h2
    obtain ⟨hk1, hb1⟩ := cont_cons hc1
    obtain ⟨hk2, hb2⟩ := cont_cons hc2
    obtain ⟨b, c, l, rfl⟩ : ∃ b c l', l = b :: c :: l' := by
      match l, hk2 with
      | b :: c :: l, _ => exact ⟨b, c, l, rfl⟩
      | [_], h => simp at h
      | [], h => simp at h
    have e1 : at' (a :: b :: c :: l) 1 = b.toNat := rfl
    have e2 : at' (a :: b :: c :: l) 2 = c.toNat := rfl
    rw [e1] at hb1
    rw [e2] at hb2
    by_cases h4 : ((a.toNat % 16) * 4096 + (b.toNat % 64) * 64 + c.toNat % 64 ≥ 2048 && okr ((a.toNat % 16) * 4096 + (b.toNat % 64) * 64 + c.toNat % 64)) = true
    · rw [Bool.and_eq_true, decide_eq_true_eq] at h4
      exact key _ l (okr_sc h4.2) (by rw [enc_three (b0 := a) (b1 := b) (b2 := c) (okr_sc h4.2) h4.1 (by omega) (by omega) (by omega) (by omega)]; rfl)
    · left
      unfold dec
      rw [if_neg (by rw [e0]; exact h0), if_neg h1, if_pos h2', if_neg (by rw [e0, e1, e2]; exact h4)]
  by_cases h3 : (at' (a :: l) 0 / 8 == 30 && cont (a :: l) 1 && cont (a :: l) 2 && cont (a :: l) 3) = true
  · have h3' := h3
    rw [Bool.and_eq_true, Bool.and_eq_true, Bool.and_eq_true, e0, beq_iff_eq] at h3
    obtain ⟨⟨⟨h4, hc1⟩, hc2⟩, hc3⟩ := h3
    obtain ⟨hk1, hb1⟩ := cont_cons hc1
    obtain ⟨hk2, hb2⟩ := cont_cons hc2
    obtain ⟨hk3, hb3⟩ := cont_cons hc3
    obtain ⟨b, c, d, l, rfl⟩ : ∃ b c d l', l = b :: c :: d :: l' := by
      match l, hk3 with
      | b :: c :: d :: l, _ => exact ⟨b, c, d, l, rfl⟩
      | [_, _], h => simp at h
      | [_], h => simp at h
      | [], h => simp at h
    have e1 : at' (a :: b :: c :: d :: l) 1 = b.toNat := rfl
    have e2 : at' (a :: b :: c :: d :: l) 2 = c.toNat := rfl
    have e3 : at' (a :: b :: c :: d :: l) 3 = d.toNat := rfl
    rw [e1] at hb1
    rw [e2] at hb2
    rw [e3] at hb3
    by_cases h5 : ((a.toNat % 8) * 262144 + (b.toNat % 64) * 4096 + (c.toNat % 64) * 64 + d.toNat % 64 ≥ 65536 && okr ((a.toNat % 8) * 262144 + (b.toNat % 64) * 4096 + (c.toNat % 64) * 64 + d.toNat % 64)) = true
    · rw [Bool.and_eq_true, decide_eq_true_eq] at h5
      exact key _ l (okr_sc h5.2) (by rw [enc_four (b0 := a) (b1 := b) (b2 := c) (b3 := d) (okr_sc h5.2) h5.1 (by omega) (by omega) (by omega) (by omega)]; rfl)
    · left
      unfold dec
      rw [if_neg (by rw [e0]; exact h0), if_neg h1, if_neg h2, if_pos h3', if_neg (by rw [e0, e1, e2, e3]; exact h5)]
  · left
    unfold dec
    rw [if_neg (by rw [e0]; exact h0), if_neg h1, if_neg h2, if_neg h3]

/-- What a broken byte is: no rune's bytes begin here. -/
theorem bad_no {r : Nat} (hs : sc r) (t : List UInt8) : dec (enc r ++ t) ≠ (0xFFFD, 1) := by
  rw [dec_enc hs]
  intro e
  injection e with e1 e2
  have := (enc_len hs).2.2 e2
  omega
theorem dec_len {l : List UInt8} (hl : l ≠ []) : 1 ≤ (dec l).2 ∧ (dec l).2 ≤ l.length ∧ sc (dec l).1 := by
  rcases dec_cases hl with h | ⟨r, t, hs, e, h⟩
  · rw [h]
    have := List.length_pos_iff.2 hl
    exact ⟨Nat.le_refl _, this, .inr (by simp)⟩
  · rw [h]
    have := enc_len hs
    exact ⟨this.1, by rw [e]; simp, hs⟩

/-! ### The runes of a text -/
def runesF : Nat → List UInt8 → List (Nat × Nat)
  | 0, _ => []
  | _ + 1, [] => []
  | f + 1, a :: l => dec (a :: l) :: runesF f ((a :: l).drop (dec (a :: l)).2)
def runes (l : List UInt8) : List (Nat × Nat) := runesF l.length l
theorem runesF_more : ∀ (f g : Nat) (l : List UInt8), l.length ≤ f → l.length ≤ g → runesF f l = runesF g l
  | 0, 0, _, _, _ => rfl
  | 0, g + 1, l, h, _ => by obtain rfl : l = [] := List.eq_nil_of_length_eq_zero (by omega); rfl
  | f + 1, 0, l, _, h => by obtain rfl : l = [] := List.eq_nil_of_length_eq_zero (by omega); rfl
  | f + 1, g + 1, [], _, _ => rfl
  | f + 1, g + 1, a :: l, h, h' => by
    have hd := dec_len (l := a :: l) (by simp)
    rw [runesF, runesF, runesF_more f g _ (by rw [List.length_drop]; omega) (by rw [List.length_drop]; omega)]
theorem runes_nil : runes [] = [] := rfl
theorem runes_cons {l : List UInt8} (hl : l ≠ []) : runes l = dec l :: runes (l.drop (dec l).2) := by
  obtain ⟨a, l, rfl⟩ := List.exists_cons_of_ne_nil hl
  have hd := dec_len (l := a :: l) (by simp)
  unfold runes
  rw [List.length_cons, runesF, runesF_more l.length _ _ (by rw [List.length_drop]; simp at hd ⊢; omega) (Nat.le_refl _)]
theorem runes_enc {r : Nat} (hs : sc r) (t : List UInt8) : runes (enc r ++ t) = (r, (enc r).length) :: runes t := by
  have hl := enc_len hs
  have hne : enc r ++ t ≠ [] := by
    intro e
    have := congrArg List.length e
    rw [List.length_append, List.length_nil] at this
    omega
  rw [runes_cons hne, dec_enc hs]
  simp
theorem runes_bad {a : UInt8} {t : List UInt8} (h : dec (a :: t) = (0xFFFD, 1)) : runes (a :: t) = (0xFFFD, 1) :: runes t := by
  rw [runes_cons (by simp), h]
  rfl
def bad (p : Nat × Nat) : Bool := p.2 == 1 && p.1 == 0xFFFD
def cnt (l : List UInt8) : Nat := (runes l).length
def vals (l : List UInt8) : Bool := (runes l).all fun p => !bad p
theorem bad_iff {p : Nat × Nat} : bad p = true ↔ p = (0xFFFD, 1) := by
  unfold bad
  obtain ⟨x, y⟩ := p
  simp
  omega
theorem not_bad {r : Nat} (hs : sc r) : bad (r, (enc r).length) = false := by
  have h := bad_no hs []
  rw [dec_enc hs] at h
  cases hb : bad (r, (enc r).length) with
  | false => rfl
  | true => exact absurd (bad_iff.1 hb) h

/-- By parts: an induction over a text's runes. -/
theorem by_runes {C : List UInt8 → Prop} (hn : C []) (hc : ∀ a l, C ((a :: l).drop (dec (a :: l)).2) → C (a :: l)) : ∀ l, C l := by
  intro l
  obtain ⟨n, h⟩ : ∃ n, l.length ≤ n := ⟨_, Nat.le_refl _⟩
  induction n generalizing l with
  | zero => obtain rfl : l = [] := List.eq_nil_of_length_eq_zero (by omega); exact hn
  | succ n ih =>
    cases l with
    | nil => exact hn
    | cons a l =>
      have hd := dec_len (l := a :: l) (by simp)
      exact hc a l (ih _ (by rw [List.length_drop]; omega))

def encs (rs : List Nat) : List UInt8 := rs.flatMap enc
theorem encs_cons (r : Nat) (rs : List Nat) : encs (r :: rs) = enc r ++ encs rs := by simp [encs]
theorem encs_append (rs ts : List Nat) : encs (rs ++ ts) = encs rs ++ encs ts := by simp [encs]
theorem runes_encs : ∀ (rs : List Nat) (t : List UInt8), (∀ r ∈ rs, sc r) → runes (encs rs ++ t) = rs.map (fun r => (r, (enc r).length)) ++ runes t
  | [], t, _ => by simp [encs]
  | r :: rs, t, h => by
    rw [encs_cons, List.append_assoc, runes_enc (h r (by simp)), runes_encs rs t (fun x hx => h x (by simp [hx]))]
    simp
theorem runes_encs' (rs : List Nat) (h : ∀ r ∈ rs, sc r) : runes (encs rs) = rs.map fun r => (r, (enc r).length) := by
  have := runes_encs rs [] h
  simpa [runes_nil] using this
theorem vals_encs {rs : List Nat} (h : ∀ r ∈ rs, sc r) : vals (encs rs) = true := by
  unfold vals
  rw [runes_encs' rs h, List.all_map, List.all_eq_true]
  intro r hr
  simp [not_bad (h r hr)]
theorem cnt_encs {rs : List Nat} (h : ∀ r ∈ rs, sc r) : cnt (encs rs) = rs.length := by
  unfold cnt
  rw [runes_encs' rs h, List.length_map]
/-- A valid text is its runes' bytes. -/
theorem vals_of (l : List UInt8) : vals l = true → ∃ rs, (∀ r ∈ rs, sc r) ∧ l = encs rs := by
  refine by_runes (C := fun l => vals l = true → ∃ rs, (∀ r ∈ rs, sc r) ∧ l = encs rs) (fun _ => ⟨[], by simp, rfl⟩) (fun a l ih h => ?_) l
  unfold vals at h
  rw [runes_cons (by simp), List.all_cons, Bool.and_eq_true] at h
  rcases dec_cases (l := a :: l) (by simp) with hb | ⟨r, t, hs, e, hd⟩
  · rw [hb] at h
    exact absurd h.1 (by decide)
  · rw [hd] at h ih
    have ht : (a :: l).drop (enc r).length = t := by rw [e]; simp
    simp only [ht] at h ih
    obtain ⟨rs, hrs, rfl⟩ := ih h.2
    exact ⟨r :: rs, by
      intro x hx
      rcases List.mem_cons.1 hx with rfl | hx
      · exact hs
      · exact hrs x hx, by rw [e, encs_cons]⟩

/-! ### Small forms and words -/
def inB (r a b : Int) : Bool := decide (a ≤ r) && decide (r ≤ b)
def small (r : Int) : Int :=
  if r = 215 ∨ r = 930 then r
  else if (65 ≤ r ∧ r ≤ 90) ∨ (192 ≤ r ∧ r ≤ 222) ∨ (913 ≤ r ∧ r ≤ 937) ∨ (1040 ≤ r ∧ r ≤ 1071) then r + 32
  else if 1024 ≤ r ∧ r ≤ 1039 then r + 80
  else if r = 376 then 255
  else r
def word (r : Int) : Bool :=
  if (48 ≤ r ∧ r ≤ 57) ∨ (65 ≤ r ∧ r ≤ 90) ∨ (97 ≤ r ∧ r ≤ 122) ∨ r = 95 then true
  else if r < 192 ∨ r = 215 ∨ r = 247 ∨ (8192 ≤ r ∧ r ≤ 8303) ∨ (12288 ≤ r ∧ r ≤ 12351) ∨ r = 65533 then false
  else decide ((0 ≤ r ∧ r < 0xD800) ∨ (0xDFFF < r ∧ r ≤ 0x10FFFF))
theorem small_small (r : Int) : small (small r) = small r := by
  unfold small
  repeat' split
  all_goals omega
theorem word_small (r : Int) : word (small r) = word r := by
  unfold small word
  repeat' split
  all_goals first | rfl | (exfalso; omega) | (rw [decide_eq_decide]; omega)
theorem small_bound {r : Int} (h0 : -2147483648 ≤ r) (h1 : r ≤ 2147483647) : -2147483648 ≤ small r ∧ small r ≤ 2147483647 := by
  unfold small
  repeat' split
  all_goals omega
def smallN (r : Nat) : Nat := (small (r : Int)).toNat
theorem small_nat (r : Nat) : small (r : Int) = (smallN r : Int) := by
  unfold smallN small
  repeat' split
  all_goals omega
theorem smallN_sc {r : Nat} (h : sc r) : sc (smallN r) := by
  have e := small_nat r
  unfold small at e
  unfold sc at *
  repeat' split at e
  all_goals omega
theorem smallN_smallN (r : Nat) : smallN (smallN r) = smallN r := by
  have h := small_small (r : Int)
  rw [small_nat, small_nat] at h
  omega
theorem smallN_ascii {r : Nat} (h : r < 128) : smallN r < 128 := by
  have e := small_nat r
  unfold small at e
  repeat' split at e
  all_goals omega

/-! ### Folding -/
def fold (l : List UInt8) : List UInt8 := (runes l).flatMap fun p => enc (smallN p.1)
theorem runes_sc (l : List UInt8) : ∀ p ∈ runes l, sc p.1 := by
  refine by_runes (C := fun l => ∀ p ∈ runes l, sc p.1) (by simp [runes_nil]) (fun a l ih => ?_) l
  rw [runes_cons (by simp)]
  intro p hp
  rcases List.mem_cons.1 hp with rfl | hp
  · exact (dec_len (by simp)).2.2
  · exact ih p hp
theorem fold_encs (l : List UInt8) : fold l = encs ((runes l).map fun p => smallN p.1) := by
  unfold fold encs
  rw [List.flatMap_map]
theorem fold_sc (l : List UInt8) : ∀ r ∈ (runes l).map (fun p => smallN p.1), sc r := by
  intro r hr
  obtain ⟨p, hp, rfl⟩ := List.mem_map.1 hr
  exact smallN_sc (runes_sc l p hp)
theorem fold_of_encs {rs : List Nat} (h : ∀ r ∈ rs, sc r) : fold (encs rs) = encs (rs.map smallN) := by
  rw [fold_encs, runes_encs' rs h, List.map_map]
  rfl
theorem vals_fold (l : List UInt8) : vals (fold l) = true := by rw [fold_encs]; exact vals_encs (fold_sc l)
theorem cnt_fold (l : List UInt8) : cnt (fold l) = cnt l := by
  rw [fold_encs, cnt_encs (fold_sc l), List.length_map]
  rfl
theorem fold_fold (l : List UInt8) : fold (fold l) = fold l := by
  rw [fold_encs l, fold_of_encs (fold_sc l), List.map_map]
  congr 1
  apply List.map_congr_left
  intro p _
  exact smallN_smallN p.1
theorem runes_len (l : List UInt8) : (runes l).length ≤ l.length := by
  refine by_runes (C := fun l => (runes l).length ≤ l.length) (by simp [runes_nil]) (fun a l ih => ?_) l
  have hd := dec_len (l := a :: l) (by simp)
  rw [runes_cons (by simp), List.length_cons]
  rw [List.length_drop] at ih
  omega
theorem encs_len {rs : List Nat} (h : ∀ r ∈ rs, sc r) : (encs rs).length ≤ 4 * rs.length := by
  induction rs with
  | nil => simp [encs]
  | cons r rs ih =>
    have := enc_len (h r (by simp))
    have := ih (fun x hx => h x (by simp [hx]))
    rw [encs_cons, List.length_append, List.length_cons]
    omega
theorem fold_len (l : List UInt8) : (fold l).length ≤ 4 * l.length := by
  rw [fold_encs]
  have := encs_len (fold_sc l)
  have := runes_len l
  rw [List.length_map] at *
  omega

/-! ### Joins and cuts -/
theorem vals_join {s t : List UInt8} (hs : vals s = true) (ht : vals t = true) : vals (s ++ t) = true ∧ cnt (s ++ t) = cnt s + cnt t ∧ fold (s ++ t) = fold s ++ fold t := by
  obtain ⟨rs, hrs, rfl⟩ := vals_of s hs
  obtain ⟨ts, hts, rfl⟩ := vals_of t ht
  have h : ∀ r ∈ rs ++ ts, sc r := by
    intro r hr
    rcases List.mem_append.1 hr with hr | hr
    · exact hrs r hr
    · exact hts r hr
  rw [← encs_append, vals_encs h, cnt_encs h, cnt_encs hrs, cnt_encs hts, fold_of_encs h, fold_of_encs hrs, fold_of_encs hts, ← encs_append, List.length_append, List.map_append]
  exact ⟨rfl, rfl, rfl⟩
theorem vals_folds (s t : List UInt8) : vals (fold s ++ fold t) = true := by
  rw [fold_encs, fold_encs, ← encs_append]
  refine vals_encs ?_
  intro r hr
  rcases List.mem_append.1 hr with hr | hr
  · exact fold_sc s r hr
  · exact fold_sc t r hr
/-- Where a place lies: between two runes, or within one. -/
theorem place {rs : List Nat} (h : ∀ r ∈ rs, sc r) : ∀ {k : Nat}, k ≤ (encs rs).length →
    (∃ a b, rs = a ++ b ∧ k = (encs a).length) ∨ ∃ a r b j, rs = a ++ r :: b ∧ k = (encs a).length + j ∧ 0 < j ∧ j < (enc r).length := by
  induction rs with
  | nil => intro k hk; exact .inl ⟨[], [], rfl, by simpa [encs] using hk⟩
  | cons r rs ih =>
    intro k hk
    rw [encs_cons, List.length_append] at hk
    rcases Nat.lt_or_ge k (enc r).length with h1 | h1
    · rcases Nat.eq_zero_or_pos k with rfl | h0
      · exact .inl ⟨[], r :: rs, rfl, by simp [encs]⟩
      · exact .inr ⟨[], r, rs, k, rfl, by simp [encs], h0, h1⟩
    · rcases ih (fun x hx => h x (by simp [hx])) (k := k - (enc r).length) (by omega) with ⟨a, b, rfl, e⟩ | ⟨a, q, b, j, rfl, e, h2, h3⟩
      · exact .inl ⟨r :: a, b, rfl, by rw [encs_cons, List.length_append]; omega⟩
      · exact .inr ⟨r :: a, q, b, j, rfl, by rw [encs_cons, List.length_append]; omega, h2, h3⟩
/-- A rune's first byte is none of the later ones, and the others are. -/
theorem enc_head {r : Nat} (hs : sc r) (t : List UInt8) : ∃ c, (enc r ++ t)[0]? = some c ∧ (c.toNat < 128 ∨ 191 < c.toNat) := by
  rcases enc_cases hs with ⟨b0, e, h, h0⟩ | ⟨b0, b1, e, h, h', h0, h1⟩ | ⟨b0, b1, b2, e, h, h', h0, h1, h2⟩ | ⟨b0, b1, b2, b3, e, h, h', h0, h1, h2, h3⟩ <;> rw [e] <;> exact ⟨b0, rfl, by omega⟩
theorem enc_tail {r : Nat} (hs : sc r) {j : Nat} (h0 : 0 < j) (h1 : j < (enc r).length) : 128 ≤ ((enc r)[j]).toNat ∧ ((enc r)[j]).toNat < 192 := by
  have key : ∀ (l : List UInt8) (hl : l = enc r) (hj : j < l.length), (∀ b ∈ l.drop 1, 128 ≤ b.toNat ∧ b.toNat < 192) → 128 ≤ (l[j]).toNat ∧ (l[j]).toNat < 192 := by
    intro l _ hj h
    refine h _ ?_
    rw [List.mem_iff_getElem]
    obtain ⟨i, rfl⟩ : ∃ i, j = i + 1 := ⟨j - 1, by omega⟩
    exact ⟨i, by simp; omega, by simp⟩
  refine key (enc r) rfl h1 ?_
  rcases enc_cases hs with ⟨b0, e, h, h0⟩ | ⟨b0, b1, e, h, h', h0, h1⟩ | ⟨b0, b1, b2, e, h, h', h0, h1, h2⟩ | ⟨b0, b1, b2, b3, e, h, h', h0, h1, h2, h3⟩ <;> rw [e] <;> simp <;> omega
/-- A later byte by itself is part of no rune. -/
theorem dec_later {c : UInt8} (t : List UInt8) (h0 : 128 ≤ c.toNat) (h1 : c.toNat < 192) : dec (c :: t) = (0xFFFD, 1) := by
  have e0 : at' (c :: t) 0 = c.toNat := rfl
  have q1 : (c.toNat / 32 == 6) = false := by simp; omega
  have q2 : (c.toNat / 16 == 14) = false := by simp; omega
  have q3 : (c.toNat / 8 == 30) = false := by simp; omega
  unfold dec
  rw [e0, if_neg (by omega), q1, q2, q3]
  simp
theorem vals_later {c : UInt8} (t : List UInt8) (h0 : 128 ≤ c.toNat) (h1 : c.toNat < 192) : vals (c :: t) = false := by
  unfold vals
  rw [runes_bad (dec_later t h0 h1)]
  simp [bad]
theorem vals_part {rs : List Nat} (h : ∀ r ∈ rs, sc r) (t : List UInt8) : vals (encs rs ++ t) = vals t := by
  unfold vals
  rw [runes_encs rs t h, List.all_append, List.all_map]
  have e : (rs.all ((fun p => !bad p) ∘ fun r => (r, (enc r).length))) = true := by
    rw [List.all_eq_true]
    intro r hr
    simp [not_bad (h r hr)]
  rw [e, Bool.true_and]
/-- The beginning of a rune's bytes is no rune's. -/
theorem vals_begin {r : Nat} (hs : sc r) {j : Nat} (h0 : 0 < j) (h1 : j < (enc r).length) : vals ((enc r).take j) = false := by
  have hne : (enc r).take j ≠ [] := by
    intro e
    have := congrArg List.length e
    rw [List.length_take, List.length_nil] at this
    omega
  rcases dec_cases hne with hb | ⟨q, t, hq, e, hd⟩
  · unfold vals
    rw [runes_cons hne, hb]
    simp [bad]
  · have e2 : enc r = enc q ++ (t ++ (enc r).drop j) := by rw [← List.append_assoc, ← e, List.take_append_drop]
    have e3 := dec_enc hs []
    rw [List.append_nil, e2, dec_enc hq] at e3
    injection e3 with e4 _
    subst e4
    have := congrArg List.length e
    simp at this
    omega
/-- The cut: a valid text that is cut at a place is two valid texts just if a rune begins there, or nothing does. -/
theorem vals_cut {s : List UInt8} (hs : vals s = true) {k : Nat} (hk : k ≤ s.length) (whole : Bool)
    (hw : whole = (k == s.length || (decide (at' s k < 128) || decide (191 < at' s k)))) : vals (s.take k) = whole ∧ vals (s.drop k) = whole := by
  obtain ⟨rs, hrs, rfl⟩ := vals_of s hs
  rcases place hrs hk with ⟨a, b, rfl, rfl⟩ | ⟨a, r, b, j, rfl, rfl, h0, h1⟩
  · have ha : ∀ r ∈ a, sc r := fun r hr => hrs r (by simp [hr])
    have hb : ∀ r ∈ b, sc r := fun r hr => hrs r (by simp [hr])
    have e : whole = true := by
      rw [hw, encs_append]
      cases b with
      | nil => simp [encs]
      | cons q b =>
        obtain ⟨c, hc, hc'⟩ := enc_head (hb q (by simp)) (encs b)
        have : at' (encs a ++ encs (q :: b)) (encs a).length = c.toNat := by
          unfold at'
          rw [List.getD_eq_getElem?_getD, List.getElem?_append_right (Nat.le_refl _), Nat.sub_self, encs_cons, hc]
          rfl
        rw [this]
        simp
        omega
    rw [e, encs_append, List.take_left', List.drop_left']
    · exact ⟨vals_encs ha, vals_encs hb⟩
    · rfl
    · rfl
  · have ha : ∀ r ∈ a, sc r := fun r hr => hrs r (by simp [hr])
    have hr := hrs r (by simp)
    obtain ⟨t0, t1⟩ := enc_tail hr h0 h1
    have eS : encs (a ++ r :: b) = encs a ++ ((enc r).take j ++ ((enc r).drop j ++ encs b)) := by
      rw [encs_append, encs_cons, ← List.append_assoc ((enc r).take j), List.take_append_drop]
    have eD : (enc r).drop j ++ encs b = (enc r)[j] :: ((enc r).drop (j + 1) ++ encs b) := by rw [List.drop_eq_getElem_cons h1]; rfl
    have hl : ((enc r).take j).length = j := by simp; omega
    have eA : at' (encs (a ++ r :: b)) ((encs a).length + j) = ((enc r)[j]).toNat := by
      rw [eS, eD]
      unfold at'
      rw [List.getD_eq_getElem?_getD, List.getElem?_append_right (by omega), List.getElem?_append_right (by omega), hl]
      simp
    have eL : ((encs a).length + j == (encs (a ++ r :: b)).length) = false := by
      rw [encs_append, encs_cons]
      simp
      omega
    have e : whole = false := by
      rw [hw, eA, eL]
      simp
      omega
    rw [e]
    have e1 : (encs (a ++ r :: b)).take ((encs a).length + j) = encs a ++ (enc r).take j := by
      rw [eS, List.take_append, List.take_of_length_le (by omega), show (encs a).length + j - (encs a).length = j by omega, List.take_left' hl]
    have e2 : (encs (a ++ r :: b)).drop ((encs a).length + j) = (enc r).drop j ++ encs b := by
      rw [eS, List.drop_append, List.drop_eq_nil_of_le (by omega), show (encs a).length + j - (encs a).length = j by omega, List.drop_left' hl]
      rfl
    rw [e1, e2, vals_part ha, eD]
    exact ⟨vals_begin hr h0 h1, vals_later _ t0 t1⟩

/-! ### A text of bytes below 128 -/
theorem ascii_encs : ∀ {l : List UInt8}, (∀ b ∈ l, b.toNat < 128) → l = encs (l.map UInt8.toNat)
  | [], _ => rfl
  | b :: l, h => by
    rw [List.map_cons, encs_cons, enc_one (b0 := b) (h b (by simp)) rfl, ← ascii_encs (fun x hx => h x (by simp [hx]))]
    rfl
theorem ascii_sc {l : List UInt8} (h : ∀ b ∈ l, b.toNat < 128) : ∀ r ∈ l.map UInt8.toNat, sc r := by
  intro r hr
  obtain ⟨b, hb, rfl⟩ := List.mem_map.1 hr
  exact .inl (by have := h b hb; omega)
def low (b : UInt8) : UInt8 := UInt8.ofNat (smallN b.toNat)
theorem ascii_all {l : List UInt8} (h : ∀ b ∈ l, b.toNat < 128) : vals l = true ∧ cnt l = l.length ∧ fold l = l.map low := by
  have e := ascii_encs h
  have hs := ascii_sc h
  refine ⟨by rw [e]; exact vals_encs hs, by rw [e, cnt_encs hs]; simp [← e], ?_⟩
  have h2 : ∀ b ∈ l.map low, b.toNat < 128 := by
    intro b hb
    obtain ⟨c, hc, rfl⟩ := List.mem_map.1 hb
    have := smallN_ascii (h c hc)
    unfold low
    rw [toNat_ofNat (by omega)]
    exact this
  rw [ascii_encs h2]
  conv => lhs; rw [e]
  rw [fold_of_encs hs, List.map_map, List.map_map]
  congr 1
  apply List.map_congr_left
  intro c hc
  have := smallN_ascii (h c hc)
  simp only [Function.comp, low]
  rw [toNat_ofNat (by omega)]
theorem ascii_odd {l : List UInt8} (h : ∀ b ∈ l, b.toNat < 128) (k : Nat) (hk : k ≤ l.length) : vals (l.take k ++ (128 :: l.drop k)) = false ∧ cnt (l.take k ++ (128 :: l.drop k)) = l.length + 1 := by
  have h1 : ∀ b ∈ l.take k, b.toNat < 128 := fun b hb => h b (List.mem_of_mem_take hb)
  have h2 : ∀ b ∈ l.drop k, b.toNat < 128 := fun b hb => h b (List.mem_of_mem_drop hb)
  have e1 := ascii_encs h1
  have s1 := ascii_sc h1
  have hb : dec (128 :: l.drop k) = (0xFFFD, 1) := dec_later _ (by decide) (by decide)
  constructor
  · rw [e1, vals_part s1]
    exact vals_later _ (by decide) (by decide)
  · have hc := (ascii_all h2).2.1
    unfold cnt at hc ⊢
    rw [e1, runes_encs _ _ s1, runes_bad hb, List.length_append, List.length_cons, hc]
    simp
    omega

/-! ### The program's own test of a broken byte -/
theorem prefix_bad {l : List UInt8} (hl : l ≠ []) : ((dec l).1 == 0xFFFD && !Lib.hasPrefix l [239, 191, 189]) = bad (dec l) := by
  have hF : enc 0xFFFD = [239, 191, 189] := by decide
  have hp : Lib.hasPrefix l [239, 191, 189] = true ↔ ∃ t, l = enc 0xFFFD ++ t := by
    unfold Lib.hasPrefix
    rw [hF, List.isPrefixOf_iff_prefix]
    exact ⟨fun ⟨t, h⟩ => ⟨t, h.symm⟩, fun ⟨t, h⟩ => ⟨t, h.symm⟩⟩
  have hsF : sc 0xFFFD := .inr (by omega)
  rcases dec_cases hl with hb | ⟨r, t, hs, e, hd⟩
  · have : Lib.hasPrefix l [239, 191, 189] = false := by
      cases hx : Lib.hasPrefix l [239, 191, 189] with
      | false => rfl
      | true =>
        obtain ⟨t, ht⟩ := hp.1 hx
        rw [ht] at hb
        exact absurd hb (bad_no hsF t)
    rw [hb, this]
    rfl
  · rw [hd, not_bad hs]
    by_cases hr : r = 0xFFFD
    · subst hr
      rw [hp.2 ⟨t, e⟩]
      rfl
    · simp [hr]

end Go.Proofs.Ytdmbgjpidlllcaa.UtSpec

namespace Go.Proofs.Ytdmbgjpidlllcaa.RxSpec

/-! ### Trees -/
inductive Pat where
  | empty
  | set (l : List Nat)
  | bol
  | eol
  | seq (l : List Pat)
  | alt (l : List Pat)
  | rep (p : Pat) (lo : Nat) (hi : Int)
/-- A node: its kind, its kids, how often, its set. -/
structure Nd where
  kind : Nat
  kids : List Nat
  lo : Int
  hi : Int
  set : List Int
deriving DecidableEq
mutual
/-- A tree's nodes, where b are ahead of it; the last one is the root. -/
def emit : Pat → Nat → List Nd
  | .empty, _ => [⟨1, [], 0, 0, []⟩]
  | .set l, _ => [⟨2, [], 0, 0, l.map fun (n : Nat) => (n : Int)⟩]
  | .bol, _ => [⟨6, [], 0, 0, []⟩]
  | .eol, _ => [⟨7, [], 0, 0, []⟩]
  | .seq l, b => emits l b ++ [⟨3, roots l b, 0, 0, []⟩]
  | .alt l, b => emits l b ++ [⟨4, roots l b, 0, 0, []⟩]
  | .rep p lo hi, b => emit p b ++ [⟨5, [b + (emit p b).length - 1], lo, hi, []⟩]
def emits : List Pat → Nat → List Nd
  | [], _ => []
  | p :: l, b => emit p b ++ emits l (b + (emit p b).length)
def roots : List Pat → Nat → List Nat
  | [], _ => []
  | p :: l, b => (b + (emit p b).length - 1) :: roots l (b + (emit p b).length)
end
theorem emit_pos (p : Pat) (b : Nat) : 1 ≤ (emit p b).length := by
  cases p <;> simp [emit]
theorem emits_snoc : ∀ (l : List Pat) (p : Pat) (b : Nat), emits (l ++ [p]) b = emits l b ++ emit p (b + (emits l b).length)
  | [], p, b => by simp [emits]
  | q :: l, p, b => by
    rw [List.cons_append, emits, emits_snoc l p, emits, List.append_assoc, List.length_append]
    congr 3
    omega
theorem roots_snoc : ∀ (l : List Pat) (p : Pat) (b : Nat), roots (l ++ [p]) b = roots l b ++ [b + (emits l b).length + (emit p (b + (emits l b).length)).length - 1]
  | [], p, b => by simp [emits, roots]
  | q :: l, p, b => by
    rw [List.cons_append, roots, roots_snoc l p, roots, emits, List.cons_append, List.length_append]
    simp only [Nat.add_assoc]
theorem roots_len : ∀ (l : List Pat) (b : Nat), (roots l b).length = l.length
  | [], _ => by simp [roots]
  | q :: l, b => by rw [roots, List.length_cons, List.length_cons, roots_len l]

/-! ### Sizes -/
def times (lo : Nat) (hi : Int) : Nat := if 1 < hi then hi.toNat else if hi < 0 ∧ 0 < lo then lo + 1 else 1
mutual
/-- A tree's size. -/
def size : Pat → Nat
  | .seq l => 1 + sizes l
  | .alt l => 1 + sizes l
  | .rep p lo hi => 1 + times lo hi * size p
  | _ => 1
def sizes : List Pat → Nat
  | [] => 0
  | p :: l => size p + sizes l
end

/-! ### Parsing -/
def inn (r : Nat) (s : List Nat) : Bool := s.contains r
def hd (rs : List Nat) (r : Nat) : Bool := rs.head? == some r
/-- The runes that are escaped for themselves: \ ( ) [ ] { } * + ? | . ^ $ - -/
def escs : List Nat := [92, 40, 41, 91, 93, 123, 125, 42, 43, 63, 124, 46, 94, 36, 45]
/-- The runes that are no atom: ) ] { } * + ? | -/
def bars : List Nat := [41, 93, 123, 125, 42, 43, 63, 124]
def esc : List Nat → Option (List Nat × List Nat)
  | [] => none
  | r :: t =>
    if r = 110 then some ([10, 10], t)
    else if r = 116 then some ([9, 9], t)
    else if r = 100 then some ([48, 57], t)
    else if r = 119 then some ([48, 57, 65, 90, 95, 95, 97, 122], t)
    else if r = 115 then some ([9, 10, 13, 13, 32, 32], t)
    else if inn r escs then some ([r, r], t) else none
def member : List Nat → Option (List Nat × List Nat)
  | [] => none
  | r :: t => if r = 92 then esc t else if inn r [91, 93, 94, 45] then none else some ([r, r], t)
def fromTo (m k : List Nat) : Option (List Nat) :=
  if m.length = 2 ∧ k.length = 2 ∧ m.getD 0 0 = m.getD 1 0 ∧ k.getD 0 0 = k.getD 1 0 ∧ m.getD 0 0 ≤ k.getD 0 0 then some [m.getD 0 0, k.getD 0 0] else none
/-- One member of a class, or two with - between them. -/
def piece (rs : List Nat) : Option (List Nat × List Nat) :=
  match member rs with
  | none => none
  | some (m, r1) =>
    if hd r1 45 then
      match member r1.tail with
      | none => none
      | some (k, r2) => (fromTo m k).map fun x => (x, r2)
    else some (m, r1)
/-- The members up to ]. -/
def classL (set : List Nat) (first : Bool) (rs : List Nat) : Option (List Nat × List Nat) :=
  if !first && hd rs 93 then some (set, rs.tail)
  else
    match piece rs with
    | none => none
    | some (m, r1) => if _h : r1.length < rs.length then classL (set ++ m) false r1 else none
termination_by rs.length
/-- Does a rune lie in a set? -/
def has : List Nat → Nat → Bool
  | a :: b :: l, r => (decide (a ≤ r) && decide (r ≤ b)) || has l r
  | _, _ => false
/-- Runes in order as pairs. -/
def pairs : List Nat → List Nat
  | [] => []
  | r :: l =>
    match pairs l with
    | a :: b :: m => if a = r + 1 then r :: b :: m else r :: r :: a :: b :: m
    | _ => [r, r]
def clean (set : List Nat) (not : Bool) : List Nat := pairs ((List.range 1114112).filter fun r => has set r != not)
def cls (rs : List Nat) : Option (Pat × List Nat) :=
  match classL [] true (if hd rs 94 then rs.tail else rs) with
  | none => none
  | some (set, r1) => some (.set (clean set (hd rs 94)), r1)
def digit : List Nat → Option (Nat × List Nat)
  | [] => none
  | r :: t => if 48 ≤ r ∧ r ≤ 56 then some (r - 48, t) else none
/-- What stands behind an atom. -/
def repS (p : Pat) (rs : List Nat) : Option (Pat × List Nat) :=
  if hd rs 43 then some (.rep p 1 (-1), rs.tail)
  else if hd rs 63 then some (.rep p 0 1, rs.tail)
  else if hd rs 123 then
    match digit rs.tail with
    | none => none
    | some (lo, r1) =>
      match (if hd r1 44 then digit r1.tail else some (lo, r1)) with
      | none => none
      | some (hi, r2) => if hd r2 125 ∧ lo ≤ hi then some (.rep p lo hi, r2.tail) else none
  else if hd rs 42 then some (.rep p 0 (-1), rs.tail)
  else some (p, rs)
def mkAlt : List Pat → Pat
  | [p] => p
  | l => .alt l
def mkRow : List Pat → Pat
  | [] => .empty
  | [p] => p
  | l => .seq l
abbrev Res := Option (Pat × Nat × List Nat)
mutual
/-- An alternative: its tree, how deep it is, what stands behind it. -/
def altS (rs : List Nat) : Res :=
  match rowL [] 0 rs with
  | none => none
  | some (p, k, r1) => if _h : r1.length ≤ rs.length then altL [p] k r1 else none
termination_by (rs.length, 5)
decreasing_by all_goals (simp_wf; simp only [Prod.lex_def]; simp_all <;> omega)
def altL (ps : List Pat) (k : Nat) (rs : List Nat) : Res :=
  if _h0 : hd rs 124 = true ∧ rs.tail.length < rs.length then
    match rowL [] 0 rs.tail with
    | none => none
    | some (p, k', r1) => if _h : r1.length < rs.length then altL (ps ++ [p]) (max k k') r1 else none
  else some (mkAlt ps, k, rs)
termination_by (rs.length, 4)
decreasing_by all_goals (simp_wf; simp only [Prod.lex_def]; simp_all <;> omega)
def rowL (ps : List Pat) (k : Nat) (rs : List Nat) : Res :=
  if rs = [] ∨ hd rs 124 ∨ hd rs 41 then some (mkRow ps, k, rs)
  else
    match itemS rs with
    | none => none
    | some (p, k', r1) => if _h : r1.length < rs.length then rowL (ps ++ [p]) (max k k') r1 else none
termination_by (rs.length, 3)
decreasing_by all_goals (simp_wf; simp only [Prod.lex_def]; simp_all <;> omega)
def itemS (rs : List Nat) : Res :=
  match atomS rs with
  | none => none
  | some (p, k, r1) => (repS p r1).map fun x => (x.1, k, x.2)
termination_by (rs.length, 2)
decreasing_by all_goals (simp_wf; simp only [Prod.lex_def]; simp_all <;> omega)
def atomS (rs : List Nat) : Res :=
  match rs with
  | [] => none
  | r :: t =>
    if r = 40 then
      match altS t with
      | none => none
      | some (p, k, r1) => if hd r1 41 then some (p, k + 1, r1.tail) else none
    else if r = 91 then (cls t).map fun x => (x.1, 0, x.2)
    else if r = 46 then some (.set [0, 9, 11, 1114111], 0, t)
    else if r = 94 then some (.bol, 0, t)
    else if r = 36 then some (.eol, 0, t)
    else if r = 92 then (esc t).map fun x => (.set x.1, 0, x.2)
    else if inn r bars then none
    else some (.set [r, r], 0, t)
termination_by (rs.length, 1)
decreasing_by all_goals (simp_wf; simp only [Prod.lex_def]; simp_all <;> omega)
end
/-- What a text of runes is parsed to: an error, or 0 and a tree's nodes. -/
def parse (rs : List Nat) : Nat × List Nd :=
  match altS rs with
  | some (p, k, []) => if 16 < k then (9, []) else if 1000 < size p then (3, []) else (0, emit p 0)
  | _ => (40, [])
end Go.Proofs.Ytdmbgjpidlllcaa.RxSpec

namespace Go.Proofs.Ytdmbgjpidlllcaa.RxText
open RxSpec

def runesOf (s : List UInt8) : List Nat := (UtSpec.runes s).map Prod.fst
/-- What a text is parsed to. -/
def parseT (s : List UInt8) : Nat × List Nd := if 128 < s.length then (4, []) else if UtSpec.vals s = true then parse (runesOf s) else (8, [])
theorem runesOf_len (s : List UInt8) : (runesOf s).length ≤ s.length := by unfold runesOf; rw [List.length_map]; exact UtSpec.runes_len s
theorem runesOf_le (s : List UInt8) : ∀ r ∈ runesOf s, r ≤ 1114111 := fun r h => by
  obtain ⟨x, hx, rfl⟩ := List.mem_map.1 h
  have := UtSpec.runes_sc s x hx
  unfold UtSpec.sc at this
  omega
/-- A text of runes. -/
theorem text_encs {R : List Nat} (h : ∀ r ∈ R, UtSpec.sc r) : parseT (UtSpec.encs R) = if 128 < (UtSpec.encs R).length then (4, []) else parse R := by
  unfold parseT runesOf
  rw [UtSpec.vals_encs h, if_pos rfl, UtSpec.runes_encs' R h, List.map_map]
  rw [show (Prod.fst ∘ fun r => (r, (UtSpec.enc r).length)) = (fun r => r) from rfl, List.map_id']
/-- A text that is a pattern. -/
theorem text_ok {s : List UInt8} {l : List Nd} (h : parseT s = (0, l)) : ∃ R p k, (∀ r ∈ R, UtSpec.sc r) ∧ s = UtSpec.encs R ∧ s.length ≤ 128 ∧ altS R = some (p, k, []) ∧ k ≤ 16 ∧ size p ≤ 1000 ∧ l = emit p 0 := by
  by_cases hv : UtSpec.vals s = true
  case neg =>
    unfold parseT at h
    split at h
    · cases h
    · first | (cases h; done) | (rw [if_neg hv] at h; cases h)
  obtain ⟨R, hR, rfl⟩ := UtSpec.vals_of s hv
  rw [text_encs hR] at h
  split at h
  · cases h
  rename_i h1
  unfold parse at h
  split at h
  · rename_i p k ha
    split at h
    · cases h
    rename_i h2
    split at h
    · cases h
    rename_i h3
    injection h with _ h
    exact ⟨R, p, k, hR, rfl, by omega, ha, by omega, by omega, h.symm⟩
  · cases h
theorem sc_low {r : Nat} (h : r < 128) : UtSpec.sc r := .inl (by omega)
theorem enc_low {r : Nat} (h : r < 128) : UtSpec.enc r = [UInt8.ofNat r] := UtSpec.enc_one h (UtSpec.toNat_ofNat (by omega))
theorem encs_low : ∀ {R : List Nat}, (∀ r ∈ R, r < 128) → UtSpec.encs R = R.map UInt8.ofNat
  | [], _ => rfl
  | r :: R, h => by
    rw [UtSpec.encs_cons, enc_low (h r (by simp)), encs_low (fun x hx => h x (by simp [hx]))]
    rfl
end Go.Proofs.Ytdmbgjpidlllcaa.RxText

namespace Go.Proofs.Ytdmbgjpidlllcaa.RxEq
open RxSpec

theorem hd_cons (r : Nat) (t : List Nat) (c : Nat) : hd (r :: t) c = (r == c) := by unfold hd; simp
theorem hd_nil (c : Nat) : hd [] c = false := rfl
theorem hd_tail {rs : List Nat} {c : Nat} (h : hd rs c = true) : rs.tail.length < rs.length := by
  cases rs with
  | nil => simp [hd] at h
  | cons a t => simp
theorem esc_cons (r : Nat) (t : List Nat) : esc (r :: t) = if r = 110 then some ([10, 10], t)
    else if r = 116 then some ([9, 9], t)
    else if r = 100 then some ([48, 57], t)
    else if r = 119 then some ([48, 57, 65, 90, 95, 95, 97, 122], t)
    else if r = 115 then some ([9, 10, 13, 13, 32, 32], t)
    else if inn r escs then some ([r, r], t) else none := rfl
theorem member_cons (r : Nat) (t : List Nat) : member (r :: t) = if r = 92 then esc t else if inn r [91, 93, 94, 45] then none else some ([r, r], t) := rfl
theorem digit_cons (r : Nat) (t : List Nat) : digit (r :: t) = if 48 ≤ r ∧ r ≤ 56 then some (r - 48, t) else none := rfl
theorem esc_short {rs : List Nat} {m r1 : List Nat} (h : esc rs = some (m, r1)) : r1.length < rs.length := by
  cases rs with
  | nil => simp [esc] at h
  | cons r t =>
    have key : r1 = t := by
      rw [esc_cons] at h
      repeat' split at h
      all_goals first | (cases h; done) | (simp only [Option.some.injEq, Prod.mk.injEq] at h; exact h.2.symm)
    rw [key]; simp
theorem member_short {rs : List Nat} {m r1 : List Nat} (h : member rs = some (m, r1)) : r1.length < rs.length := by
  cases rs with
  | nil => simp [member] at h
  | cons r t =>
    rw [member_cons] at h
    split at h
    · have := esc_short h; simp; omega
    split at h
    · cases h
    · simp only [Option.some.injEq, Prod.mk.injEq] at h
      rw [← h.2]; simp
theorem piece_short {rs : List Nat} {m r1 : List Nat} (h : piece rs = some (m, r1)) : r1.length < rs.length := by
  unfold piece at h
  cases hm : member rs with
  | none => rw [hm] at h; cases h
  | some x =>
    obtain ⟨m0, r0⟩ := x
    rw [hm] at h
    have h0 := member_short hm
    simp only at h
    split at h
    · rename_i hd1
      cases hk : member r0.tail with
      | none => rw [hk] at h; cases h
      | some y =>
        obtain ⟨k0, r2⟩ := y
        rw [hk] at h
        have h1 := member_short hk
        have h2 := hd_tail hd1
        simp only at h
        cases hf : fromTo m0 k0 with
        | none => rw [hf] at h; cases h
        | some z =>
          rw [hf] at h
          cases h
          omega
    · cases h; exact h0
theorem classL_eq (set : List Nat) (first : Bool) (rs : List Nat) : classL set first rs = if !first && hd rs 93 then some (set, rs.tail) else
    match piece rs with
    | none => none
    | some (m, r1) => classL (set ++ m) false r1 := by
  rw [classL]
  split
  · rfl
  · cases h : piece rs with
    | none => rfl
    | some x =>
      obtain ⟨m, r1⟩ := x
      simp only
      rw [dif_pos (piece_short h)]
theorem classL_short : ∀ (N : Nat) (set : List Nat) (first : Bool) (rs : List Nat) (s r1 : List Nat), rs.length ≤ N → classL set first rs = some (s, r1) → r1.length < rs.length
  | N, set, first, rs, s, r1, hN, h => by
    rw [classL_eq] at h
    split at h
    · rename_i hc
      cases h
      simp only [Bool.and_eq_true] at hc
      exact hd_tail hc.2
    · cases hp : piece rs with
      | none => rw [hp] at h; cases h
      | some x =>
        obtain ⟨m, r2⟩ := x
        rw [hp] at h
        have h1 := piece_short hp
        match N, hN with
        | 0, hN => omega
        | N + 1, hN =>
          have h2 := classL_short N _ _ r2 _ _ (by omega) h
          omega
theorem cls_short {rs : List Nat} {p : Pat} {r1 : List Nat} (h : cls rs = some (p, r1)) : r1.length < rs.length := by
  unfold cls at h
  split at h
  · cases h
  · rename_i s r2 hc
    cases h
    have h1 := classL_short _ _ _ _ _ _ (Nat.le_refl _) hc
    split at h1
    · rename_i hh
      have := hd_tail hh
      omega
    · exact h1
theorem digit_short {rs : List Nat} {n : Nat} {r1 : List Nat} (h : digit rs = some (n, r1)) : r1.length < rs.length := by
  cases rs with
  | nil => simp [digit] at h
  | cons r t =>
    rw [digit_cons] at h
    split at h
    · simp only [Option.some.injEq, Prod.mk.injEq] at h
      rw [← h.2]; simp
    · cases h
theorem repS_short {p q : Pat} {rs r1 : List Nat} (h : repS p rs = some (q, r1)) : r1.length ≤ rs.length := by
  unfold repS at h
  split at h
  · rename_i h1; cases h; have := hd_tail h1; omega
  split at h
  · rename_i h1; cases h; have := hd_tail h1; omega
  split at h
  · rename_i h1
    have h2 := hd_tail h1
    cases hl : digit rs.tail with
    | none => rw [hl] at h; cases h
    | some x =>
      obtain ⟨lo, r2⟩ := x
      rw [hl] at h
      have h3 := digit_short hl
      simp only at h
      cases hh : (if hd r2 44 = true then digit r2.tail else some (lo, r2)) with
      | none => rw [hh] at h; cases h
      | some y =>
        obtain ⟨hi, r3⟩ := y
        rw [hh] at h
        have h4 : r3.length ≤ r2.length := by
          split at hh
          · rename_i h5
            have := digit_short hh
            have := hd_tail h5
            omega
          · cases hh; omega
        simp only at h
        split at h
        · rename_i h6
          cases h
          have := hd_tail h6.1
          omega
        · cases h
  split at h
  · rename_i h1; cases h; have := hd_tail h1; omega
  · cases h; omega
/-- What stands behind is shorter. -/
theorem all_short : ∀ N : Nat, (∀ rs p k r1, rs.length ≤ N → atomS rs = some (p, k, r1) → r1.length < rs.length) ∧ (∀ rs p k r1, rs.length ≤ N → itemS rs = some (p, k, r1) → r1.length < rs.length) ∧
    (∀ ps k0 rs p k r1, rs.length ≤ N → rowL ps k0 rs = some (p, k, r1) → r1.length ≤ rs.length) ∧ (∀ ps k0 rs p k r1, rs.length ≤ N → altL ps k0 rs = some (p, k, r1) → r1.length ≤ rs.length) ∧
    (∀ rs p k r1, rs.length ≤ N → altS rs = some (p, k, r1) → r1.length ≤ rs.length) := by
  intro N
  induction N using Nat.strongRecOn with
  | _ N ih =>
  have hatom : ∀ rs p k r1, rs.length ≤ N → atomS rs = some (p, k, r1) → r1.length < rs.length := by
    intro rs p k r1 hN h
    cases rs with
    | nil => rw [atomS] at h; cases h
    | cons r t =>
      rw [atomS] at h
      simp only [List.length_cons] at hN ⊢
      split at h
      · cases ha : altS t with
        | none => rw [ha] at h; cases h
        | some x =>
          obtain ⟨q, k1, r2⟩ := x
          rw [ha] at h
          have h1 := (ih t.length (by omega)).2.2.2.2 t q k1 r2 (Nat.le_refl _) ha
          simp only at h
          split at h
          · rename_i h2
            cases h
            have := hd_tail h2
            omega
          · cases h
      split at h
      · cases hc : cls t with
        | none => rw [hc] at h; cases h
        | some x => rw [hc] at h; cases h; have := cls_short hc; omega
      split at h
      · cases h; omega
      split at h
      · cases h; omega
      split at h
      · cases h; omega
      split at h
      · cases hc : esc t with
        | none => rw [hc] at h; cases h
        | some x => rw [hc] at h; cases h; have := esc_short hc; omega
      split at h
      · cases h
      · cases h; omega
  have hitem : ∀ rs p k r1, rs.length ≤ N → itemS rs = some (p, k, r1) → r1.length < rs.length := by
    intro rs p k r1 hN h
    rw [itemS] at h
    cases ha : atomS rs with
    | none => rw [ha] at h; cases h
    | some x =>
      obtain ⟨q, k1, r2⟩ := x
      rw [ha] at h
      have h1 := hatom rs q k1 r2 hN ha
      simp only at h
      cases hr : repS q r2 with
      | none => rw [hr] at h; cases h
      | some y => rw [hr] at h; cases h; have := repS_short hr; omega
  have hrow : ∀ ps k0 rs p k r1, rs.length ≤ N → rowL ps k0 rs = some (p, k, r1) → r1.length ≤ rs.length := by
    intro ps k0 rs p k r1 hN h
    rw [rowL] at h
    split at h
    · cases h; omega
    · cases hi : itemS rs with
      | none => rw [hi] at h; cases h
      | some x =>
        obtain ⟨q, k1, r2⟩ := x
        rw [hi] at h
        simp only at h
        split at h
        · rename_i hl
          have := (ih r2.length (by omega)).2.2.1 _ _ r2 p k r1 (Nat.le_refl _) h
          omega
        · cases h
  have haltL : ∀ ps k0 rs p k r1, rs.length ≤ N → altL ps k0 rs = some (p, k, r1) → r1.length ≤ rs.length := by
    intro ps k0 rs p k r1 hN h
    rw [altL] at h
    split at h
    · cases hi : rowL [] 0 rs.tail with
      | none => rw [hi] at h; cases h
      | some x =>
        obtain ⟨q, k1, r2⟩ := x
        rw [hi] at h
        simp only at h
        split at h
        · rename_i hl
          have := (ih r2.length (by omega)).2.2.2.1 _ _ r2 p k r1 (Nat.le_refl _) h
          omega
        · cases h
    · cases h; omega
  refine ⟨hatom, hitem, hrow, haltL, ?_⟩
  intro rs p k r1 hN h
  rw [altS] at h
  cases hi : rowL [] 0 rs with
  | none => rw [hi] at h; cases h
  | some x =>
    obtain ⟨q, k1, r2⟩ := x
    rw [hi] at h
    simp only at h
    split at h
    · rename_i hl
      have := haltL _ _ r2 p k r1 (by omega) h
      omega
    · cases h
theorem item_short {rs : List Nat} {p : Pat} {k : Nat} {r1 : List Nat} (h : itemS rs = some (p, k, r1)) : r1.length < rs.length := (all_short _).2.1 rs p k r1 (Nat.le_refl _) h
theorem row_short {ps : List Pat} {k0 : Nat} {rs : List Nat} {p : Pat} {k : Nat} {r1 : List Nat} (h : rowL ps k0 rs = some (p, k, r1)) : r1.length ≤ rs.length := (all_short _).2.2.1 ps k0 rs p k r1 (Nat.le_refl _) h
theorem atom_short {rs : List Nat} {p : Pat} {k : Nat} {r1 : List Nat} (h : atomS rs = some (p, k, r1)) : r1.length < rs.length := (all_short _).1 rs p k r1 (Nat.le_refl _) h
theorem alt_short {rs : List Nat} {p : Pat} {k : Nat} {r1 : List Nat} (h : altS rs = some (p, k, r1)) : r1.length ≤ rs.length := (all_short _).2.2.2.2 rs p k r1 (Nat.le_refl _) h
theorem altS_eq (rs : List Nat) : altS rs = match rowL [] 0 rs with
    | none => none
    | some (p, k, r1) => altL [p] k r1 := by
  rw [altS]
  cases h : rowL [] 0 rs with
  | none => rfl
  | some x =>
    obtain ⟨p, k, r1⟩ := x
    simp only
    rw [dif_pos (row_short h)]
theorem altL_eq (ps : List Pat) (k : Nat) (rs : List Nat) : altL ps k rs = if hd rs 124 then
      match rowL [] 0 rs.tail with
      | none => none
      | some (p, k', r1) => altL (ps ++ [p]) (max k k') r1
    else some (mkAlt ps, k, rs) := by
  rw [altL]
  by_cases h : hd rs 124 = true
  · rw [dif_pos ⟨h, hd_tail h⟩, if_pos h]
    have ht := hd_tail h
    cases h2 : rowL [] 0 rs.tail with
    | none => rfl
    | some x =>
      obtain ⟨p, k', r1⟩ := x
      have := row_short h2
      simp only
      rw [dif_pos (by omega)]
  · rw [dif_neg (fun h2 => h h2.1), if_neg h]
theorem rowL_eq (ps : List Pat) (k : Nat) (rs : List Nat) : rowL ps k rs = if rs = [] ∨ hd rs 124 ∨ hd rs 41 then some (mkRow ps, k, rs) else
    match itemS rs with
    | none => none
    | some (p, k', r1) => rowL (ps ++ [p]) (max k k') r1 := by
  rw [rowL]
  split
  · rfl
  · cases h : itemS rs with
    | none => rfl
    | some x =>
      obtain ⟨p, k', r1⟩ := x
      simp only
      rw [dif_pos (item_short h)]
end Go.Proofs.Ytdmbgjpidlllcaa.RxEq

