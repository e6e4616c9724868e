/- Plain: UTF-8 as lists of bytes: 'dec' (the rune at a text's beginning and its bytes' number: the model's own), 'enc' (a rune's bytes), 'runes', 'cnt', 'vals', 'fold', 'small', 'word', and what the statements of layer 6 reckon with them. No conditions. · Plain: the words of a text: runs of word runes, their small forms of at most 32 runes, inner runs; what the statements of layer 7 reckon with them. No conditions. -/
import GoSem.Core.Utf8
import Derived.Lib.RuneBytes
import Derived.Lib.Strings
namespace Go.Proofs.YtkgmcabamhpjhaaGreat.UtSpec
open Go

def at' (l : List UInt8) (k : Nat) : Nat := (l.getD k 0).toNat
def cont (l : List UInt8) (k : Nat) : Bool := decide (k < l.length) && at' l k / 64 == 2
def okr (r : Nat) : Bool := decide (r < 0xD800) || (decide (0xE000 ≤ r) && decide (r ≤ 0x10FFFF))
def dec (l : List UInt8) : Nat × Nat :=
  if at' l 0 < 0x80 then (at' l 0, 1)
  else if at' l 0 / 32 == 6 && cont l 1 then
    (if (at' l 0 % 32) * 64 + at' l 1 % 64 ≥ 0x80 then ((at' l 0 % 32) * 64 + at' l 1 % 64, 2) else (0xFFFD, 1))
  else if at' l 0 / 16 == 14 && cont l 1 && cont l 2 then
    (if (at' l 0 % 16) * 4096 + (at' l 1 % 64) * 64 + at' l 2 % 64 ≥ 0x800 && okr ((at' l 0 % 16) * 4096 + (at' l 1 % 64) * 64 + at' l 2 % 64) then ((at' l 0 % 16) * 4096 + (at' l 1 % 64) * 64 + at' l 2 % 64, 3) else (0xFFFD, 1))
  else if at' l 0 / 8 == 30 && cont l 1 && cont l 2 && cont l 3 then
    (if (at' l 0 % 8) * 262144 + (at' l 1 % 64) * 4096 + (at' l 2 % 64) * 64 + at' l 3 % 64 ≥ 0x10000 && okr ((at' l 0 % 8) * 262144 + (at' l 1 % 64) * 4096 + (at' l 2 % 64) * 64 + at' l 3 % 64) then ((at' l 0 % 8) * 262144 + (at' l 1 % 64) * 4096 + (at' l 2 % 64) * 64 + at' l 3 % 64, 4) else (0xFFFD, 1))
  else (0xFFFD, 1)

theorem valid_okr (c : Nat) : Utf8.valid (c : Int) = okr c := by
  unfold Utf8.valid okr
  rw [Bool.eq_iff_iff]
  simp
  omega
theorem get_drop (s : ByteArray) (i k : Nat) : (s.get! (i + k)).toNat = at' (s.data.toList.drop i) k := by
  unfold at'
  rw [List.getD_eq_getElem?_getD, List.getElem?_drop]
  by_cases h : i + k < s.size
  · have h' : i + k < s.data.toList.length := by simpa using h
    rw [List.getElem?_eq_getElem h']
    simp [ByteArray.get!, getElem!_pos, h]
  · have h' : ¬ i + k < s.data.size := h
    rw [List.getElem?_eq_none (by simpa using h)]
    show (s.data[i + k]!).toNat = _
    rw [getElem!_neg s.data (i + k) h']
    rfl
theorem decode_dec (s : ByteArray) (i : Nat) : Utf8.decode s i = dec (s.data.toList.drop i) := by
  have hs : ∀ k, (decide (i + k < s.size)) = decide (k < (s.data.toList.drop i).length) := fun k => by
    rw [Bool.eq_iff_iff]
    simp
    have : s.data.size = s.size := rfl
    omega
  unfold Utf8.decode dec cont
  simp only [get_drop, hs, valid_okr, Utf8.runeError]

/-- A rune that UTF-8 has bytes for. -/
def sc (r : Nat) : Prop := r < 0xD800 ∨ (0xE000 ≤ r ∧ r ≤ 0x10FFFF)
theorem okr_sc {r : Nat} (h : okr r = true) : sc r := by unfold okr at h; simp at h; exact h
theorem sc_okr {r : Nat} (h : sc r) : okr r = true := by unfold okr; simp; exact h
def enc (r : Nat) : List UInt8 := Lib.encodeRune (r : Int)

theorem byte_eq {x : Int} {b : UInt8} (h : x = (b.toNat : Int)) : x.toNat.toUInt8 = b := by
  subst h
  simp
theorem toNat_ofNat {n : Nat} (h : n < 256) : (UInt8.ofNat n).toNat = n := by simp; omega
theorem enc_one {r : Nat} {b0 : UInt8} (h : r < 128) (h0 : b0.toNat = r) : enc r = [b0] := by
  unfold enc Lib.encodeRune
  rw [Lib.encodeRuneZ_one (by omega) (by omega)]
  simp only [List.map_cons, List.map_nil]
  rw [byte_eq (b := b0) (by omega)]
theorem enc_two {r : Nat} {b0 b1 : UInt8} (h : 128 ≤ r) (h' : r < 2048) (h0 : b0.toNat = 192 + r / 64) (h1 : b1.toNat = 128 + r % 64) : enc r = [b0, b1] := by
  unfold enc Lib.encodeRune
  rw [Lib.encodeRuneZ_two (by omega) (by omega)]
  simp only [List.map_cons, List.map_nil]
  rw [byte_eq (b := b0) (by omega), byte_eq (b := b1) (by omega)]
theorem enc_three {r : Nat} {b0 b1 b2 : UInt8} (hs : sc r) (h : 2048 ≤ r) (h' : r < 65536) (h0 : b0.toNat = 224 + r / 4096) (h1 : b1.toNat = 128 + r / 64 % 64) (h2 : b2.toNat = 128 + r % 64) : enc r = [b0, b1, b2] := by
  unfold sc at hs
  unfold enc Lib.encodeRune
  rw [Lib.encodeRuneZ_three (by omega)]
  simp only [List.map_cons, List.map_nil]
  rw [byte_eq (b := b0) (by omega), byte_eq (b := b1) (by omega), byte_eq (b := b2) (by omega)]
theorem enc_four {r : Nat} {b0 b1 b2 b3 : UInt8} (hs : sc r) (h : 65536 ≤ r) (h0 : b0.toNat = 240 + r / 262144) (h1 : b1.toNat = 128 + r / 4096 % 64) (h2 : b2.toNat = 128 + r / 64 % 64) (h3 : b3.toNat = 128 + r % 64) : enc r = [b0, b1, b2, b3] := by
  unfold sc at hs
  unfold enc Lib.encodeRune
  rw [Lib.encodeRuneZ_four (by omega) (by omega)]
  simp only [List.map_cons, List.map_nil]
  rw [byte_eq (b := b0) (by omega), byte_eq (b := b1) (by omega), byte_eq (b := b2) (by omega), byte_eq (b := b3) (by omega)]

/-- The bytes of a rune, told apart. -/
theorem enc_cases {r : Nat} (hs : sc r) :
    (∃ b0, enc r = [b0] ∧ r < 128 ∧ b0.toNat = r) ∨
    (∃ b0 b1, enc r = [b0, b1] ∧ 128 ≤ r ∧ r < 2048 ∧ b0.toNat = 192 + r / 64 ∧ b1.toNat = 128 + r % 64) ∨
    (∃ b0 b1 b2, enc r = [b0, b1, b2] ∧ 2048 ≤ r ∧ r < 65536 ∧ b0.toNat = 224 + r / 4096 ∧ b1.toNat = 128 + r / 64 % 64 ∧ b2.toNat = 128 + r % 64) ∨
    (∃ b0 b1 b2 b3, enc r = [b0, b1, b2, b3] ∧ 65536 ≤ r ∧ r ≤ 0x10FFFF ∧ b0.toNat = 240 + r / 262144 ∧ b1.toNat = 128 + r / 4096 % 64 ∧ b2.toNat = 128 + r / 64 % 64 ∧ b3.toNat = 128 + r % 64) := by
  have hs' := hs
  unfold sc at hs
  rcases Nat.lt_or_ge r 128 with h | h
  · exact .inl ⟨UInt8.ofNat r, enc_one h (toNat_ofNat (by omega)), h, toNat_ofNat (by omega)⟩
  rcases Nat.lt_or_ge r 2048 with h' | h'
  · have e0 := toNat_ofNat (n := 192 + r / 64) (by omega)
    have e1 := toNat_ofNat (n := 128 + r % 64) (by omega)
    exact .inr (.inl ⟨_, _, enc_two h h' e0 e1, h, h', e0, e1⟩)
  rcases Nat.lt_or_ge r 65536 with h2 | h2
  · have e0 := toNat_ofNat (n := 224 + r / 4096) (by omega)
    have e1 := toNat_ofNat (n := 128 + r / 64 % 64) (by omega)
    have e2 := toNat_ofNat (n := 128 + r % 64) (by omega)
    exact .inr (.inr (.inl ⟨_, _, _, enc_three hs' h' h2 e0 e1 e2, h', h2, e0, e1, e2⟩))
  · have e0 := toNat_ofNat (n := 240 + r / 262144) (by omega)
    have e1 := toNat_ofNat (n := 128 + r / 4096 % 64) (by omega)
    have e2 := toNat_ofNat (n := 128 + r / 64 % 64) (by omega)
    have e3 := toNat_ofNat (n := 128 + r % 64) (by omega)
    exact .inr (.inr (.inr ⟨_, _, _, _, enc_four hs' h2 e0 e1 e2 e3, h2, by omega, e0, e1, e2, e3⟩))

theorem enc_len {r : Nat} (hs : sc r) : 1 ≤ (enc r).length ∧ (enc r).length ≤ 4 ∧ ((enc r).length = 1 → r < 128) := by
  rcases enc_cases hs with ⟨b0, e, h, _⟩ | ⟨b0, b1, e, _⟩ | ⟨b0, b1, b2, e, _⟩ | ⟨b0, b1, b2, b3, e, _⟩ <;> rw [e] <;> simp
  exact h

/-- What begins with a rune's bytes is decoded as it. -/
theorem dec_enc {r : Nat} (hs : sc r) (t : List UInt8) : dec (enc r ++ t) = (r, (enc r).length) := by
  have hs' := sc_okr hs
  rcases enc_cases hs with ⟨b0, e, h, h0⟩ | ⟨b0, b1, e, h, h', h0, h1⟩ | ⟨b0, b1, b2, e, h, h', h0, h1, h2⟩ | ⟨b0, b1, b2, b3, e, h, h', h0, h1, h2, h3⟩
  · rw [e]
    unfold dec at'
    simp [h0, h]
  · rw [e]
    have c1 : cont ([b0, b1] ++ t) 1 = true := by unfold cont at'; simp; omega
    have d : (at' ([b0, b1] ++ t) 0) = 192 + r / 64 := by unfold at'; simpa using h0
    have d1 : (at' ([b0, b1] ++ t) 1) = 128 + r % 64 := by unfold at'; simpa using h1
    have q : ((192 + r / 64) % 32) * 64 + (128 + r % 64) % 64 = r := by omega
    have q1 : (192 + r / 64) / 32 = 6 := by omega
    unfold dec
    rw [d, d1, c1, q, q1, if_neg (by omega), if_pos (by decide), if_pos h]
    rfl
  · rw [e]
    have c1 : cont ([b0, b1, b2] ++ t) 1 = true := by unfold cont at'; simp; omega
    have c2 : cont ([b0, b1, b2] ++ t) 2 = true := by unfold cont at'; simp; omega
    have d : (at' ([b0, b1, b2] ++ t) 0) = 224 + r / 4096 := by unfold at'; simpa using h0
    have d1 : (at' ([b0, b1, b2] ++ t) 1) = 128 + r / 64 % 64 := by unfold at'; simpa using h1
    have d2 : (at' ([b0, b1, b2] ++ t) 2) = 128 + r % 64 := by unfold at'; simpa using h2
    have q : ((224 + r / 4096) % 16) * 4096 + ((128 + r / 64 % 64) % 64) * 64 + (128 + r % 64) % 64 = r := by omega
    have q0 : ((224 + r / 4096) / 32 == 6) = false := by simp; omega
    have q1 : (224 + r / 4096) / 16 = 14 := by omega
    unfold dec
    rw [d, d1, d2, c1, c2, q, q0, q1, if_neg (by omega), if_neg (by decide), if_pos (by decide), hs', if_pos (by simpa using h)]
    rfl
  · rw [e]
    have c1 : cont ([b0, b1, b2, b3] ++ t) 1 = true := by unfold cont at'; simp; omega
    have c2 : cont ([b0, b1, b2, b3] ++ t) 2 = true := by unfold cont at'; simp; omega
    have c3 : cont ([b0, b1, b2, b3] ++ t) 3 = true := by unfold cont at'; simp; omega
    have d : (at' ([b0, b1, b2, b3] ++ t) 0) = 240 + r / 262144 := by unfold at'; simpa using h0
    have d1 : (at' ([b0, b1, b2, b3] ++ t) 1) = 128 + r / 4096 % 64 := by unfold at'; simpa using h1
    have d2 : (at' ([b0, b1, b2, b3] ++ t) 2) = 128 + r / 64 % 64 := by unfold at'; simpa using h2
    have d3 : (at' ([b0, b1, b2, b3] ++ t) 3) = 128 + r % 64 := by unfold at'; simpa using h3
    have q : ((240 + r / 262144) % 8) * 262144 + ((128 + r / 4096 % 64) % 64) * 4096 + ((128 + r / 64 % 64) % 64) * 64 + (128 + r % 64) % 64 = r := by omega
    have q0 : ((240 + r / 262144) / 32 == 6) = false := by simp; omega
    have q1 : ((240 + r / 262144) / 16 == 14) = false := by simp; omega
    have q2 : (240 + r / 262144) / 8 = 30 := by omega
    unfold dec
    rw [d, d1, d2, d3, c1, c2, c3, q, q0, q1, q2, if_neg (by omega), if_neg (by decide), if_neg (by decide), if_pos (by decide), hs', if_pos (by simpa using h)]
    rfl

theorem cont_cons {l : List UInt8} {k : Nat} (h : cont l k = true) : k < l.length ∧ at' l k / 64 = 2 := by
  unfold cont at h
  simpa using h
theorem at_get {l : List UInt8} {k : Nat} (h : k < l.length) : at' l k = (l[k]).toNat := by unfold at'; simp [h]

/-- What stands at a text's beginning is a rune's bytes, or a byte that is part of none. -/
theorem dec_cases {l : List UInt8} (hl : l ≠ []) : dec l = (0xFFFD, 1) ∨ ∃ r t, sc r ∧ l = enc r ++ t ∧ dec l = (r, (enc r).length) := by
  obtain ⟨a, l, rfl⟩ := List.exists_cons_of_ne_nil hl
  have e0 : at' (a :: l) 0 = a.toNat := rfl
  have ha := a.toNat_lt
  have key : ∀ r t, sc r → a :: l = enc r ++ t → dec (a :: l) = (0xFFFD, 1) ∨ ∃ r t, sc r ∧ a :: l = enc r ++ t ∧ dec (a :: l) = (r, (enc r).length) :=
    fun r t h e => .inr ⟨r, t, h, e, by rw [e]; exact dec_enc h t⟩
  by_cases h0 : a.toNat < 128
  · exact key a.toNat l (.inl (by omega)) (by rw [enc_one h0 rfl]; rfl)
  by_cases h1 : (at' (a :: l) 0 / 32 == 6 && cont (a :: l) 1) = true
  · have h1' := h1
    rw [Bool.and_eq_true, e0, beq_iff_eq] at h1
    obtain ⟨h1, h2⟩ := h1
    obtain ⟨hk, hb⟩ := cont_cons h2
    obtain ⟨b, l, rfl⟩ : ∃ b l', l = b :: l' := by cases l with | nil => simp at hk | cons b l => exact ⟨b, l, rfl⟩
    have e1 : at' (a :: b :: l) 1 = b.toNat := rfl
    rw [e1] at hb
    by_cases h3 : (a.toNat % 32) * 64 + b.toNat % 64 ≥ 128
    · exact key ((a.toNat % 32) * 64 + b.toNat % 64) l (.inl (by omega)) (by rw [enc_two (b0 := a) (b1 := b) h3 (by omega) (by omega) (by omega)]; rfl)
    · left
      unfold dec
      rw [if_neg (by rw [e0]; exact h0), if_pos h1', if_neg (by rw [e0, e1]; exact h3)]
  by_cases h2 : (at' (a :: l) 0 / 16 == 14 && cont (a :: l) 1 && cont (a :: l) 2) = true
  · have h2' := h2
    rw [Bool.and_eq_true, Bool.and_eq_true, e0, beq_iff_eq] at h2
    obtain ⟨⟨h3, hc1⟩, hc2⟩ := h2
    obtain ⟨hk1, hb1⟩ := cont_cons hc1
    obtain ⟨hk2, hb2⟩ := cont_cons hc2
    obtain ⟨b, c, l, rfl⟩ : ∃ b c l', l = b :: c :: l' := by
      match l, hk2 with
      | b :: c :: l, _ => exact ⟨b, c, l, rfl⟩
      | [_], h => simp at h
      | [], h => simp at h
    have e1 : at' (a :: b :: c :: l) 1 = b.toNat := rfl
    have e2 : at' (a :: b :: c :: l) 2 = c.toNat := rfl
    rw [e1] at hb1
    rw [e2] at hb2
    by_cases h4 : ((a.toNat % 16) * 4096 + (b.toNat % 64) * 64 + c.toNat % 64 ≥ 2048 && okr ((a.toNat % 16) * 4096 + (b.toNat % 64) * 64 + c.toNat % 64)) = true
    · rw [Bool.and_eq_true, decide_eq_true_eq] at h4
      exact key _ l (okr_sc h4.2) (by rw [enc_three (b0 := a) (b1 := b) (b2 := c) (okr_sc h4.2) h4.1 (by omega) (by omega) (by omega) (by omega)]; rfl)
    · left
      unfold dec
      rw [if_neg (by rw [e0]; exact h0), if_neg h1, if_pos h2', if_neg (by rw [e0, e1, e2]; exact h4)]
  by_cases h3 : (at' (a :: l) 0 / 8 == 30 && cont (a :: l) 1 && cont (a :: l) 2 && cont (a :: l) 3) = true
  · have h3' := h3
    rw [Bool.and_eq_true, Bool.and_eq_true, Bool.and_eq_true, e0, beq_iff_eq] at h3
    obtain ⟨⟨⟨h4, hc1⟩, hc2⟩, hc3⟩ := h3
    obtain ⟨hk1, hb1⟩ := cont_cons hc1
    obtain ⟨hk2, hb2⟩ := cont_cons hc2
    obtain ⟨hk3, hb3⟩ := cont_cons hc3
    obtain ⟨b, c, d, l, rfl⟩ : ∃ b c d l', l = b :: c :: d :: l' := by
      match l, hk3 with
      | b :: c :: d :: l, _ => exact ⟨b, c, d, l, rfl⟩
      | [_, _], h => simp at h
      | [_], h => simp at h
      | [], h => simp at h
    have e1 : at' (a :: b :: c :: d :: l) 1 = b.toNat := rfl
    have e2 : at' (a :: b :: c :: d :: l) 2 = c.toNat := rfl
    have e3 : at' (a :: b :: c :: d :: l) 3 = d.toNat := rfl
    rw [e1] at hb1
    rw [e2] at hb2
    rw [e3] at hb3
    by_cases h5 : ((a.toNat % 8) * 262144 + (b.toNat % 64) * 4096 + (c.toNat % 64) * 64 + d.toNat % 64 ≥ 65536 && okr ((a.toNat % 8) * 262144 + (b.toNat % 64) * 4096 + (c.toNat % 64) * 64 + d.toNat % 64)) = true
    · rw [Bool.and_eq_true, decide_eq_true_eq] at h5
      exact key _ l (okr_sc h5.2) (by rw [enc_four (b0 := a) (b1 := b) (b2 := c) (b3 := d) (okr_sc h5.2) h5.1 (by omega) (by omega) (by omega) (by omega)]; rfl)
    · left
      unfold dec
      rw [if_neg (by rw [e0]; exact h0), if_neg h1, if_neg h2, if_pos h3', if_neg (by rw [e0, e1, e2, e3]; exact h5)]
  · left
    unfold dec
    rw [if_neg (by rw [e0]; exact h0), if_neg h1, if_neg h2, if_neg h3]

/-- What a broken byte is: no rune's bytes begin here. -/
theorem bad_no {r : Nat} (hs : sc r) (t : List UInt8) : dec (enc r ++ t) ≠ (0xFFFD, 1) := by
  rw [dec_enc hs]
  intro e
  injection e with e1 e2
  have := (enc_len hs).2.2 e2
  omega
theorem dec_len {l : List UInt8} (hl : l ≠ []) : 1 ≤ (dec l).2 ∧ (dec l).2 ≤ l.length ∧ sc (dec l).1 := by
  rcases dec_cases hl with h | ⟨r, t, hs, e, h⟩
  · rw [h]
    have := List.length_pos_iff.2 hl
    exact ⟨Nat.le_refl _, this, .inr (by simp)⟩
  · rw [h]
    have := enc_len hs
    exact ⟨this.1, by rw [e]; simp, hs⟩

/-! ### The runes of a text -/
def runesF : Nat → List UInt8 → List (Nat × Nat)
  | 0, _ => []
  | _ + 1, [] => []
  | f + 1, a :: l => dec (a :: l) :: runesF f ((a :: l).drop (dec (a :: l)).2)
def runes (l : List UInt8) : List (Nat × Nat) := runesF l.length l
theorem runesF_more : ∀ (f g : Nat) (l : List UInt8), l.length ≤ f → l.length ≤ g → runesF f l = runesF g l
  | 0, 0, _, _, _ => rfl
  | 0, g + 1, l, h, _ => by obtain rfl : l = [] := List.eq_nil_of_length_eq_zero (by omega); rfl
  | f + 1, 0, l, _, h => by obtain rfl : l = [] := List.eq_nil_of_length_eq_zero (by omega); rfl
  | f + 1, g + 1, [], _, _ => rfl
  | f + 1, g + 1, a :: l, h, h' => by
    have hd := dec_len (l := a :: l) (by simp)
    rw [runesF, runesF, runesF_more f g _ (by rw [List.length_drop]; omega) (by rw [List.length_drop]; omega)]
theorem runes_nil : runes [] = [] := rfl
theorem runes_cons {l : List UInt8} (hl : l ≠ []) : runes l = dec l :: runes (l.drop (dec l).2) := by
  obtain ⟨a, l, rfl⟩ := List.exists_cons_of_ne_nil hl
  have hd := dec_len (l := a :: l) (by simp)
  unfold runes
  rw [List.length_cons, runesF, runesF_more l.length _ _ (by rw [List.length_drop]; simp at hd ⊢; omega) (Nat.le_refl _)]
theorem runes_enc {r : Nat} (hs : sc r) (t : List UInt8) : runes (enc r ++ t) = (r, (enc r).length) :: runes t := by
  have hl := enc_len hs
  have hne : enc r ++ t ≠ [] := by
    intro e
    have := congrArg List.length e
    rw [List.length_append, List.length_nil] at this
    omega
  rw [runes_cons hne, dec_enc hs]
  simp
theorem runes_bad {a : UInt8} {t : List UInt8} (h : dec (a :: t) = (0xFFFD, 1)) : runes (a :: t) = (0xFFFD, 1) :: runes t := by
  rw [runes_cons (by simp), h]
  rfl
def bad (p : Nat × Nat) : Bool := p.2 == 1 && p.1 == 0xFFFD
def cnt (l : List UInt8) : Nat := (runes l).length
def vals (l : List UInt8) : Bool := (runes l).all fun p => !bad p
theorem bad_iff {p : Nat × Nat} : bad p = true ↔ p = (0xFFFD, 1) := by
  unfold bad
  obtain ⟨x, y⟩ := p
  simp
  omega
theorem not_bad {r : Nat} (hs : sc r) : bad (r, (enc r).length) = false := by
  have h := bad_no hs []
  rw [dec_enc hs] at h
  cases hb : bad (r, (enc r).length) with
  | false => rfl
  | true => exact absurd (bad_iff.1 hb) h

/-- By parts: an induction over a text's runes. -/
theorem by_runes {C : List UInt8 → Prop} (hn : C []) (hc : ∀ a l, C ((a :: l).drop (dec (a :: l)).2) → C (a :: l)) : ∀ l, C l := by
  intro l
  obtain ⟨n, h⟩ : ∃ n, l.length ≤ n := ⟨_, Nat.le_refl _⟩
  induction n generalizing l with
  | zero => obtain rfl : l = [] := List.eq_nil_of_length_eq_zero (by omega); exact hn
  | succ n ih =>
    cases l with
    | nil => exact hn
    | cons a l =>
      have hd := dec_len (l := a :: l) (by simp)
      exact hc a l (ih _ (by rw [List.length_drop]; omega))

def encs (rs : List Nat) : List UInt8 := rs.flatMap enc
theorem encs_cons (r : Nat) (rs : List Nat) : encs (r :: rs) = enc r ++ encs rs := by simp [encs]
theorem encs_append (rs ts : List Nat) : encs (rs ++ ts) = encs rs ++ encs ts := by simp [encs]
theorem runes_encs : ∀ (rs : List Nat) (t : List UInt8), (∀ r ∈ rs, sc r) → runes (encs rs ++ t) = rs.map (fun r => (r, (enc r).length)) ++ runes t
  | [], t, _ => by simp [encs]
  | r :: rs, t, h => by
    rw [encs_cons, List.append_assoc, runes_enc (h r (by simp)), runes_encs rs t (fun x hx => h x (by simp [hx]))]
    simp
theorem runes_encs' (rs : List Nat) (h : ∀ r ∈ rs, sc r) : runes (encs rs) = rs.map fun r => (r, (enc r).length) := by
  have := runes_encs rs [] h
  simpa [runes_nil] using this
theorem vals_encs {rs : List Nat} (h : ∀ r ∈ rs, sc r) : vals (encs rs) = true := by
  unfold vals
  rw [runes_encs' rs h, List.all_map, List.all_eq_true]
  intro r hr
  simp [not_bad (h r hr)]
theorem cnt_encs {rs : List Nat} (h : ∀ r ∈ rs, sc r) : cnt (encs rs) = rs.length := by
  unfold cnt
  rw [runes_encs' rs h, List.length_map]
/-- A valid text is its runes' bytes. -/
theorem vals_of (l : List UInt8) : vals l = true → ∃ rs, (∀ r ∈ rs, sc r) ∧ l = encs rs := by
  refine by_runes (C := fun l => vals l = true → ∃ rs, (∀ r ∈ rs, sc r) ∧ l = encs rs) (fun _ => ⟨[], by simp, rfl⟩) (fun a l ih h => ?_) l
  unfold vals at h
  rw [runes_cons (by simp), List.all_cons, Bool.and_eq_true] at h
  rcases dec_cases (l := a :: l) (by simp) with hb | ⟨r, t, hs, e, hd⟩
  · rw [hb] at h
    exact absurd h.1 (by decide)
  · rw [hd] at h ih
    have ht : (a :: l).drop (enc r).length = t := by rw [e]; simp
    simp only [ht] at h ih
    obtain ⟨rs, hrs, rfl⟩ := ih h.2
    exact ⟨r :: rs, by
      intro x hx
      rcases List.mem_cons.1 hx with rfl | hx
      · exact hs
      · exact hrs x hx, by rw [e, encs_cons]⟩

/-! ### Small forms and words -/
def inB (r a b : Int) : Bool := decide (a ≤ r) && decide (r ≤ b)
def small (r : Int) : Int :=
  if r = 215 ∨ r = 930 then r
  else if (65 ≤ r ∧ r ≤ 90) ∨ (192 ≤ r ∧ r ≤ 222) ∨ (913 ≤ r ∧ r ≤ 937) ∨ (1040 ≤ r ∧ r ≤ 1071) then r + 32
  else if 1024 ≤ r ∧ r ≤ 1039 then r + 80
  else if r = 376 then 255
  else r
def word (r : Int) : Bool :=
  if (48 ≤ r ∧ r ≤ 57) ∨ (65 ≤ r ∧ r ≤ 90) ∨ (97 ≤ r ∧ r ≤ 122) ∨ r = 95 then true
  else if r < 192 ∨ r = 215 ∨ r = 247 ∨ (8192 ≤ r ∧ r ≤ 8303) ∨ (12288 ≤ r ∧ r ≤ 12351) ∨ r = 65533 then false
  else decide ((0 ≤ r ∧ r < 0xD800) ∨ (0xDFFF < r ∧ r ≤ 0x10FFFF))
theorem small_small (r : Int) : small (small r) = small r := by
  unfold small
  repeat' split
  all_goals omega
theorem word_small (r : Int) : word (small r) = word r := by
  unfold small word
  repeat' split
  all_goals first | rfl | (exfalso; omega) | (rw [decide_eq_decide]; omega)
theorem small_bound {r : Int} (h0 : -2147483648 ≤ r) (h1 : r ≤ 2147483647) : -2147483648 ≤ small r ∧ small r ≤ 2147483647 := by
  unfold small
  repeat' split
  all_goals omega
def smallN (r : Nat) : Nat := (small (r : Int)).toNat
theorem small_nat (r : Nat) : small (r : Int) = (smallN r : Int) := by
  unfold smallN small
  repeat' split
  all_goals omega
theorem smallN_sc {r : Nat} (h : sc r) : sc (smallN r) := by
  have e := small_nat r
  unfold small at e
  unfold sc at *
  repeat' split at e
  all_goals omega
theorem smallN_smallN (r : Nat) : smallN (smallN r) = smallN r := by
  have h := small_small (r : Int)
  rw [small_nat, small_nat] at h
  omega
theorem smallN_ascii {r : Nat} (h : r < 128) : smallN r < 128 := by
  have e := small_nat r
  unfold small at e
  repeat' split at e
  all_goals omega

/-! ### Folding -/
def fold (l : List UInt8) : List UInt8 := (runes l).flatMap fun p => enc (smallN p.1)
theorem runes_sc (l : List UInt8) : ∀ p ∈ runes l, sc p.1 := by
  refine by_runes (C := fun l => ∀ p ∈ runes l, sc p.1) (by simp [runes_nil]) (fun a l ih => ?_) l
  rw [runes_cons (by simp)]
  intro p hp
  rcases List.mem_cons.1 hp with rfl | hp
  · exact (dec_len (by simp)).2.2
  · exact ih p hp
theorem fold_encs (l : List UInt8) : fold l = encs ((runes l).map fun p => smallN p.1) := by
  unfold fold encs
  rw [List.flatMap_map]
theorem fold_sc (l : List UInt8) : ∀ r ∈ (runes l).map (fun p => smallN p.1), sc r := by
  intro r hr
  obtain ⟨p, hp, rfl⟩ := List.mem_map.1 hr
  exact smallN_sc (runes_sc l p hp)
theorem fold_of_encs {rs : List Nat} (h : ∀ r ∈ rs, sc r) : fold (encs rs) = encs (rs.map smallN) := by
  rw [fold_encs, runes_encs' rs h, List.map_map]
  rfl
theorem vals_fold (l : List UInt8) : vals (fold l) = true := by rw [fold_encs]; exact vals_encs (fold_sc l)
theorem cnt_fold (l : List UInt8) : cnt (fold l) = cnt l := by
  rw [fold_encs, cnt_encs (fold_sc l), List.length_map]
  rfl
theorem fold_fold (l : List UInt8) : fold (fold l) = fold l := by
  rw [fold_encs l, fold_of_encs (fold_sc l), List.map_map]
  congr 1
  apply List.map_congr_left
  intro p _
  exact smallN_smallN p.1
theorem runes_len (l : List UInt8) : (runes l).length ≤ l.length := by
  refine by_runes (C := fun l => (runes l).length ≤ l.length) (by simp [runes_nil]) (fun a l ih => ?_) l
  have hd := dec_len (l := a :: l) (by simp)
  rw [runes_cons (by simp), List.length_cons]
  rw [List.length_drop] at ih
  omega
theorem encs_len {rs : List Nat} (h : ∀ r ∈ rs, sc r) : (encs rs).length ≤ 4 * rs.length := by
  induction rs with
  | nil => simp [encs]
  | cons r rs ih =>
    have := enc_len (h r (by simp))
    have := ih (fun x hx => h x (by simp [hx]))
    rw [encs_cons, List.length_append, List.length_cons]
    omega
theorem fold_len (l : List UInt8) : (fold l).length ≤ 4 * l.length := by
  rw [fold_encs]
  have := encs_len (fold_sc l)
  have := runes_len l
  rw [List.length_map] at *
  omega

/-! ### Joins and cuts -/
theorem vals_join {s t : List UInt8} (hs : vals s = true) (ht : vals t = true) : vals (s ++ t) = true ∧ cnt (s ++ t) = cnt s + cnt t ∧ fold (s ++ t) = fold s ++ fold t := by
  obtain ⟨rs, hrs, rfl⟩ := vals_of s hs
  obtain ⟨ts, hts, rfl⟩ := vals_of t ht
  have h : ∀ r ∈ rs ++ ts, sc r := by
    intro r hr
    rcases List.mem_append.1 hr with hr | hr
    · exact hrs r hr
    · exact hts r hr
  rw [← encs_append, vals_encs h, cnt_encs h, cnt_encs hrs, cnt_encs hts, fold_of_encs h, fold_of_encs hrs, fold_of_encs hts, ← encs_append, List.length_append, List.map_append]
  exact ⟨rfl, rfl, rfl⟩
theorem vals_folds (s t : List UInt8) : vals (fold s ++ fold t) = true := by
  rw [fold_encs, fold_encs, ← encs_append]
  refine vals_encs ?_
  intro r hr
  rcases List.mem_append.1 hr with hr | hr
  · exact fold_sc s r hr
  · exact fold_sc t r hr
/-- Where a place lies: between two runes, or within one. -/
theorem place {rs : List Nat} (h : ∀ r ∈ rs, sc r) : ∀ {k : Nat}, k ≤ (encs rs).length →
    (∃ a b, rs = a ++ b ∧ k = (encs a).length) ∨ ∃ a r b j, rs = a ++ r :: b ∧ k = (encs a).length + j ∧ 0 < j ∧ j < (enc r).length := by
  induction rs with
  | nil => intro k hk; exact .inl ⟨[], [], rfl, by simpa [encs] using hk⟩
  | cons r rs ih =>
    intro k hk
    rw [encs_cons, List.length_append] at hk
    rcases Nat.lt_or_ge k (enc r).length with h1 | h1
    · rcases Nat.eq_zero_or_pos k with rfl | h0
      · exact .inl ⟨[], r :: rs, rfl, by simp [encs]⟩
      · exact .inr ⟨[], r, rs, k, rfl, by simp [encs], h0, h1⟩
    · rcases ih (fun x hx => h x (by simp [hx])) (k := k - (enc r).length) (by omega) with ⟨a, b, rfl, e⟩ | ⟨a, q, b, j, rfl, e, h2, h3⟩
      · exact .inl ⟨r :: a, b, rfl, by rw [encs_cons, List.length_append]; omega⟩
      · exact .inr ⟨r :: a, q, b, j, rfl, by rw [encs_cons, List.length_append]; omega, h2, h3⟩
/-- A rune's first byte is none of the later ones, and the others are. -/
theorem enc_head {r : Nat} (hs : sc r) (t : List UInt8) : ∃ c, (enc r ++ t)[0]? = some c ∧ (c.toNat < 128 ∨ 191 < c.toNat) := by
  rcases enc_cases hs with ⟨b0, e, h, h0⟩ | ⟨b0, b1, e, h, h', h0, h1⟩ | ⟨b0, b1, b2, e, h, h', h0, h1, h2⟩ | ⟨b0, b1, b2, b3, e, h, h', h0, h1, h2, h3⟩ <;> rw [e] <;> exact ⟨b0, rfl, by omega⟩
theorem enc_tail {r : Nat} (hs : sc r) {j : Nat} (h0 : 0 < j) (h1 : j < (enc r).length) : 128 ≤ ((enc r)[j]).toNat ∧ ((enc r)[j]).toNat < 192 := by
  have key : ∀ (l : List UInt8) (hl : l = enc r) (hj : j < l.length), (∀ b ∈ l.drop 1, 128 ≤ b.toNat ∧ b.toNat < 192) → 128 ≤ (l[j]).toNat ∧ (l[j]).toNat < 192 := by
    intro l _ hj h
    refine h _ ?_
    rw [List.mem_iff_getElem]
    obtain ⟨i, rfl⟩ : ∃ i, j = i + 1 := ⟨j - 1, by omega⟩
    exact ⟨i, by simp; omega, by simp⟩
  refine key (enc r) rfl h1 ?_
  rcases enc_cases hs with ⟨b0, e, h, h0⟩ | ⟨b0, b1, e, h, h', h0, h1⟩ | ⟨b0, b1, b2, e, h, h', h0, h1, h2⟩ | ⟨b0, b1, b2, b3, e, h, h', h0, h1, h2, h3⟩ <;> rw [e] <;> simp <;> omega
/-- A later byte by itself is part of no rune. -/
theorem dec_later {c : UInt8} (t : List UInt8) (h0 : 128 ≤ c.toNat) (h1 : c.toNat < 192) : dec (c :: t) = (0xFFFD, 1) := by
  have e0 : at' (c :: t) 0 = c.toNat := rfl
  have q1 : (c.toNat / 32 == 6) = false := by simp; omega
  have q2 : (c.toNat / 16 == 14) = false := by simp; omega
  have q3 : (c.toNat / 8 == 30) = false := by simp; omega
  unfold dec
  rw [e0, if_neg (by omega), q1, q2, q3]
  simp
theorem vals_later {c : UInt8} (t : List UInt8) (h0 : 128 ≤ c.toNat) (h1 : c.toNat < 192) : vals (c :: t) = false := by
  unfold vals
  rw [runes_bad (dec_later t h0 h1)]
  simp [bad]
theorem vals_part {rs : List Nat} (h : ∀ r ∈ rs, sc r) (t : List UInt8) : vals (encs rs ++ t) = vals t := by
  unfold vals
  rw [runes_encs rs t h, List.all_append, List.all_map]
  have e : (rs.all ((fun p => !bad p) ∘ fun r => (r, (enc r).length))) = true := by
    rw [List.all_eq_true]
    intro r hr
    simp [not_bad (h r hr)]
  rw [e, Bool.true_and]
/-- The beginning of a rune's bytes is no rune's. -/
theorem vals_begin {r : Nat} (hs : sc r) {j : Nat} (h0 : 0 < j) (h1 : j < (enc r).length) : vals ((enc r).take j) = false := by
  have hne : (enc r).take j ≠ [] := by
    intro e
    have := congrArg List.length e
    rw [List.length_take, List.length_nil] at this
    omega
  rcases dec_cases hne with hb | ⟨q, t, hq, e, hd⟩
  · unfold vals
    rw [runes_cons hne, hb]
    simp [bad]
  · have e2 : enc r = enc q ++ (t ++ (enc r).drop j) := by rw [← List.append_assoc, ← e, List.take_append_drop]
    have e3 := dec_enc hs []
    rw [List.append_nil, e2, dec_enc hq] at e3
    injection e3 with e4 _
    subst e4
    have := congrArg List.length e
    simp at this
    omega
/-- The cut: a valid text that is cut at a place is two valid texts just if a rune begins there, or nothing does. -/
theorem vals_cut {s : List UInt8} (hs : vals s = true) {k : Nat} (hk : k ≤ s.length) (whole : Bool)
    (hw : whole = (k == s.length || (decide (at' s k < 128) || decide (191 < at' s k)))) : vals (s.take k) = whole ∧ vals (s.drop k) = whole := by
  obtain ⟨rs, hrs, rfl⟩ := vals_of s hs
  rcases place hrs hk with ⟨a, b, rfl, rfl⟩ | ⟨a, r, b, j, rfl, rfl, h0, h1⟩
  · have ha : ∀ r ∈ a, sc r := fun r hr => hrs r (by simp [hr])
    have hb : ∀ r ∈ b, sc r := fun r hr => hrs r (by simp [hr])
    have e : whole = true := by
      rw [hw, encs_append]
      cases b with
      | nil => simp [encs]
      | cons q b =>
        obtain ⟨c, hc, hc'⟩ := enc_head (hb q (by simp)) (encs b)
        have : at' (encs a ++ encs (q :: b)) (encs a).length = c.toNat := by
          unfold at'
          rw [List.getD_eq_getElem?_getD, List.getElem?_append_right (Nat.le_refl _), Nat.sub_self, encs_cons, hc]
          rfl
        rw [this]
        simp
        omega
    rw [e, encs_append, List.take_left', List.drop_left']
    · exact ⟨vals_encs ha, vals_encs hb⟩
    · rfl
    · rfl
  · have ha : ∀ r ∈ a, sc r := fun r hr => hrs r (by simp [hr])
    have hr := hrs r (by simp)
    obtain ⟨t0, t1⟩ := enc_tail hr h0 h1
    have eS : encs (a ++ r :: b) = encs a ++ ((enc r).take j ++ ((enc r).drop j ++ encs b)) := by
      rw [encs_append, encs_cons, ← List.append_assoc ((enc r).take j), List.take_append_drop]
    have eD : (enc r).drop j ++ encs b = (enc r)[j] :: ((enc r).drop (j + 1) ++ encs b) := by rw [List.drop_eq_getElem_cons h1]; rfl
    have hl : ((enc r).take j).length = j := by simp; omega
    have eA : at' (encs (a ++ r :: b)) ((encs a).length + j) = ((enc r)[j]).toNat := by
      rw [eS, eD]
      unfold at'
      rw [List.getD_eq_getElem?_getD, List.getElem?_append_right (by omega), List.getElem?_append_right (by omega), hl]
      simp
    have eL : ((encs a).length + j == (encs (a ++ r :: b)).length) = false := by
      rw [encs_append, encs_cons]
      simp
      omega
    have e : whole = false := by
      rw [hw, eA, eL]
      simp
      omega
    rw [e]
    have e1 : (encs (a ++ r :: b)).take ((encs a).length + j) = encs a ++ (enc r).take j := by
      rw [eS, List.take_append, List.take_of_length_le (by omega), show (encs a).length + j - (encs a).length = j by omega, List.take_left' hl]
    have e2 : (encs (a ++ r :: b)).drop ((encs a).length + j) = (enc r).drop j ++ encs b := by
      rw [eS, List.drop_append, List.drop_eq_nil_of_le (by omega), show (encs a).length + j - (encs a).length = j by omega, List.drop_left' hl]
      rfl
    rw [e1, e2, vals_part ha, eD]
    exact ⟨vals_begin hr h0 h1, vals_later _ t0 t1⟩

/-! ### A text of bytes below 128 -/
theorem ascii_encs : ∀ {l : List UInt8}, (∀ b ∈ l, b.toNat < 128) → l = encs (l.map UInt8.toNat)
  | [], _ => rfl
  | b :: l, h => by
    rw [List.map_cons, encs_cons, enc_one (b0 := b) (h b (by simp)) rfl, ← ascii_encs (fun x hx => h x (by simp [hx]))]
    rfl
theorem ascii_sc {l : List UInt8} (h : ∀ b ∈ l, b.toNat < 128) : ∀ r ∈ l.map UInt8.toNat, sc r := by
  intro r hr
  obtain ⟨b, hb, rfl⟩ := List.mem_map.1 hr
  exact .inl (by have := h b hb; omega)
def low (b : UInt8) : UInt8 := UInt8.ofNat (smallN b.toNat)
theorem ascii_all {l : List UInt8} (h : ∀ b ∈ l, b.toNat < 128) : vals l = true ∧ cnt l = l.length ∧ fold l = l.map low := by
  have e := ascii_encs h
  have hs := ascii_sc h
  refine ⟨by rw [e]; exact vals_encs hs, by rw [e, cnt_encs hs]; simp [← e], ?_⟩
  have h2 : ∀ b ∈ l.map low, b.toNat < 128 := by
    intro b hb
    obtain ⟨c, hc, rfl⟩ := List.mem_map.1 hb
    have := smallN_ascii (h c hc)
    unfold low
    rw [toNat_ofNat (by omega)]
    exact this
  rw [ascii_encs h2]
  conv => lhs; rw [e]
  rw [fold_of_encs hs, List.map_map, List.map_map]
  congr 1
  apply List.map_congr_left
  intro c hc
  have := smallN_ascii (h c hc)
  simp only [Function.comp, low]
  rw [toNat_ofNat (by omega)]
theorem ascii_odd {l : List UInt8} (h : ∀ b ∈ l, b.toNat < 128) (k : Nat) (hk : k ≤ l.length) : vals (l.take k ++ (128 :: l.drop k)) = false ∧ cnt (l.take k ++ (128 :: l.drop k)) = l.length + 1 := by
  have h1 : ∀ b ∈ l.take k, b.toNat < 128 := fun b hb => h b (List.mem_of_mem_take hb)
  have h2 : ∀ b ∈ l.drop k, b.toNat < 128 := fun b hb => h b (List.mem_of_mem_drop hb)
  have e1 := ascii_encs h1
  have s1 := ascii_sc h1
  have hb : dec (128 :: l.drop k) = (0xFFFD, 1) := dec_later _ (by decide) (by decide)
  constructor
  · rw [e1, vals_part s1]
    exact vals_later _ (by decide) (by decide)
  · have hc := (ascii_all h2).2.1
    unfold cnt at hc ⊢
    rw [e1, runes_encs _ _ s1, runes_bad hb, List.length_append, List.length_cons, hc]
    simp
    omega

/-! ### The program's own test of a broken byte -/
theorem prefix_bad {l : List UInt8} (hl : l ≠ []) : ((dec l).1 == 0xFFFD && !Lib.hasPrefix l [239, 191, 189]) = bad (dec l) := by
  have hF : enc 0xFFFD = [239, 191, 189] := by decide
  have hp : Lib.hasPrefix l [239, 191, 189] = true ↔ ∃ t, l = enc 0xFFFD ++ t := by
    unfold Lib.hasPrefix
    rw [hF, List.isPrefixOf_iff_prefix]
    exact ⟨fun ⟨t, h⟩ => ⟨t, h.symm⟩, fun ⟨t, h⟩ => ⟨t, h.symm⟩⟩
  have hsF : sc 0xFFFD := .inr (by omega)
  rcases dec_cases hl with hb | ⟨r, t, hs, e, hd⟩
  · have : Lib.hasPrefix l [239, 191, 189] = false := by
      cases hx : Lib.hasPrefix l [239, 191, 189] with
      | false => rfl
      | true =>
        obtain ⟨t, ht⟩ := hp.1 hx
        rw [ht] at hb
        exact absurd hb (bad_no hsF t)
    rw [hb, this]
    rfl
  · rw [hd, not_bad hs]
    by_cases hr : r = 0xFFFD
    · subst hr
      rw [hp.2 ⟨t, e⟩]
      rfl
    · simp [hr]

end Go.Proofs.YtkgmcabamhpjhaaGreat.UtSpec

namespace Go.Proofs.YtkgmcabamhpjhaaGreat.TxSpec
open Go UtSpec

def wd (r : Nat) : Bool := word (r : Int)
/-- The runs of a row of runes; with each whether it is an inner one. cur: the run that is under way; st: whether a rune stands ahead of it. -/
def runsA (cur : List Nat) (st : Bool) : List Nat → List (List Nat × Bool)
  | [] => if cur = [] then [] else [(cur, false)]
  | r :: rs => if wd r = true then runsA (cur ++ [r]) st rs else if cur = [] then runsA [] true rs else (cur, st) :: runsA [] true rs
def wordsA (cur : List Nat) : List Nat → List (List Nat)
  | [] => if cur = [] then [] else [cur]
  | r :: rs => if wd r = true then wordsA (cur ++ [r]) rs else if cur = [] then wordsA [] rs else cur :: wordsA [] rs
theorem runsA_fst (R : List Nat) : ∀ (cur : List Nat) (st : Bool), (runsA cur st R).map Prod.fst = wordsA cur R := by
  induction R with
  | nil => intro cur st; unfold runsA wordsA; split <;> rfl
  | cons r R ih =>
    intro cur st
    unfold runsA wordsA
    split
    · exact ih _ _
    · split
      · exact ih _ _
      · rw [List.map_cons, ih]
/-- The word of a run. -/
def wof (run : List Nat) : List UInt8 := encs ((run.take 32).map smallN)
def rs (s : List UInt8) : List Nat := (runes s).map Prod.fst
def words (s : List UInt8) : List (List UInt8) := (wordsA [] (rs s)).map wof
def inners (s : List UInt8) : List (List UInt8) := ((runsA [] false (rs s)).filter Prod.snd).map fun p => wof p.1

theorem wordsA_all (R : List Nat) : ∀ (cur : List Nat), (∀ r ∈ cur, wd r = true) → ∀ c ∈ wordsA cur R, c ≠ [] ∧ ∀ r ∈ c, wd r = true := by
  induction R with
  | nil =>
    intro cur hc c h
    unfold wordsA at h
    split at h
    · cases h
    · rename_i hn
      rw [List.mem_singleton] at h
      subst h
      exact ⟨hn, hc⟩
  | cons r R ih =>
    intro cur hc c h
    unfold wordsA at h
    split at h
    · rename_i hr
      refine ih _ (fun x hx => ?_) c h
      rcases List.mem_append.1 hx with hx | hx
      · exact hc x hx
      · rw [List.mem_singleton] at hx
        rw [hx]
        exact hr
    · split at h
      · exact ih [] (by simp) c h
      · rename_i hn
        rcases List.mem_cons.1 h with rfl | h
        · exact ⟨hn, hc⟩
        · exact ih [] (by simp) c h
/-- A row of word runes, and what is behind it. -/
theorem wordsA_run (c : List Nat) (hc : ∀ r ∈ c, wd r = true) : ∀ (cur R : List Nat), wordsA cur (c ++ R) = wordsA (cur ++ c) R := by
  induction c with
  | nil => intro cur R; simp
  | cons r c ih =>
    intro cur R
    rw [List.cons_append, wordsA, if_pos (hc r (by simp)), ih (fun x hx => hc x (by simp [hx]))]
    simp
theorem wordsA_one {c : List Nat} (hc : ∀ r ∈ c, wd r = true) (hn : c ≠ []) : wordsA [] c = [c] := by
  have h := wordsA_run c hc [] []
  rw [List.append_nil, List.nil_append] at h
  rw [h, wordsA, if_neg hn]
/-- A mark parts the words. -/
theorem wordsA_mark {x : Nat} (hx : wd x = false) (A : List Nat) : ∀ (cur B : List Nat), wordsA cur (A ++ x :: B) = wordsA cur A ++ wordsA [] B := by
  induction A with
  | nil =>
    intro cur B
    have hx' : ¬ wd x = true := by rw [hx]; decide
    rw [List.nil_append, show wordsA cur (x :: B) = if wd x = true then wordsA (cur ++ [x]) B else if cur = [] then wordsA [] B else cur :: wordsA [] B from rfl, if_neg hx', show wordsA cur [] = if cur = [] then [] else [cur] from rfl]
    split <;> rfl
  | cons r A ih =>
    intro cur B
    rw [List.cons_append, wordsA, wordsA]
    split
    · exact ih _ _
    · split
      · exact ih _ _
      · rw [ih, List.cons_append]
theorem wordsA_marks {M : List Nat} (hM : ∀ x ∈ M, wd x = false) (hn : M ≠ []) : ∀ (cur A B : List Nat), wordsA cur (A ++ (M ++ B)) = wordsA cur A ++ wordsA [] B := by
  induction M with
  | nil => exact absurd rfl hn
  | cons x M ih =>
    intro cur A B
    rw [List.cons_append, wordsA_mark (hM x (by simp))]
    by_cases h : M = []
    · subst h
      rfl
    · have := ih (fun y hy => hM y (by simp [hy])) h [] [] B
      rw [List.nil_append] at this
      rw [this]
      simp [wordsA]
/-- Runes that are changed, words staying words. -/
theorem wordsA_map {f : Nat → Nat} (hf : ∀ r, wd (f r) = wd r) (R : List Nat) : ∀ cur : List Nat, wordsA (cur.map f) (R.map f) = (wordsA cur R).map (List.map f) := by
  induction R with
  | nil =>
    intro cur
    rw [List.map_nil, wordsA, wordsA]
    by_cases h : cur = []
    · subst h; rfl
    · rw [if_neg h, if_neg (by simpa using h)]; rfl
  | cons r R ih =>
    intro cur
    rw [List.map_cons, wordsA, wordsA, hf]
    split
    · rw [show cur.map f ++ [f r] = (cur ++ [r]).map f by simp, ih]
    · have h0 := ih []
      rw [List.map_nil] at h0
      by_cases h : cur = []
      · subst h
        rw [List.map_nil, if_pos rfl, if_pos rfl, h0]
      · rw [if_neg h, if_neg (by simpa using h), h0, List.map_cons]
theorem wd_small (r : Nat) : wd (smallN r) = wd r := by
  unfold wd
  rw [← small_nat, word_small]

/-! ### Inner runs -/
/-- A row with a mark behind it, and something ahead: all its runs are inner ones. -/
theorem runsA_shut {y : Nat} (hy : wd y = false) (R : List Nat) : ∀ cur : List Nat, runsA cur true (R ++ [y]) = (wordsA cur R).map fun c => (c, true) := by
  induction R with
  | nil =>
    intro cur
    have hy' : ¬ wd y = true := by rw [hy]; decide
    rw [List.nil_append, runsA, if_neg hy', wordsA]
    split <;> simp [runsA]
  | cons r R ih =>
    intro cur
    rw [List.cons_append, runsA, wordsA]
    split
    · exact ih _
    · split
      · exact ih _
      · rw [ih, List.map_cons]
/-- Where an inner run stands. -/
theorem inner_at (R : List Nat) : ∀ (cur : List Nat) (st : Bool) (c : List Nat), (∀ r ∈ cur, wd r = true) → (c, true) ∈ runsA cur st R →
    (st = true ∧ ∃ c' y P2, c = cur ++ c' ∧ R = c' ++ y :: P2 ∧ wd y = false ∧ c ≠ [] ∧ ∀ r ∈ c, wd r = true) ∨
    ∃ P1 x y P2, R = P1 ++ x :: (c ++ y :: P2) ∧ wd x = false ∧ wd y = false ∧ c ≠ [] ∧ ∀ r ∈ c, wd r = true := by
  induction R with
  | nil =>
    intro cur st c hc h
    unfold runsA at h
    split at h
    · cases h
    · simp at h
  | cons r R ih =>
    intro cur st c hc h
    unfold runsA at h
    split at h
    · rename_i hr
      have hc' : ∀ x ∈ cur ++ [r], wd x = true := by
        intro x hx
        rcases List.mem_append.1 hx with hx | hx
        · exact hc x hx
        · rw [List.mem_singleton] at hx
          rw [hx]
          exact hr
      rcases ih _ st c hc' h with ⟨h1, c', y, P2, e1, e2, h2⟩ | ⟨P1, x, y, P2, e, h2⟩
      · exact .inl ⟨h1, r :: c', y, P2, by rw [e1]; simp, by rw [e2]; rfl, h2⟩
      · exact .inr ⟨r :: P1, x, y, P2, by rw [e]; rfl, h2⟩
    · rename_i hr
      have hr' : wd r = false := by simpa using hr
      have key : ∀ (h : (c, true) ∈ runsA [] true R), ∃ P1 x y P2, r :: R = P1 ++ x :: (c ++ y :: P2) ∧ wd x = false ∧ wd y = false ∧ c ≠ [] ∧ ∀ r ∈ c, wd r = true := by
        intro h
        rcases ih [] true c (by simp) h with ⟨_, c', y, P2, e1, e2, h2, h3, h4⟩ | ⟨P1, x, y, P2, e, h2⟩
        · exact ⟨[], r, y, P2, by rw [e2, e1]; rfl, hr', h2, h3, h4⟩
        · exact ⟨r :: P1, x, y, P2, by rw [e]; rfl, h2⟩
      split at h
      · exact .inr (key h)
      · rename_i hn
        rcases List.mem_cons.1 h with h | h
        · injection h with e1 e2
          subst e1
          exact .inl ⟨e2.symm, [], r, R, by simp, rfl, hr', hn, hc⟩
        · exact .inr (key h)
/-- An inner run of a part is a run of whatever the part stands in. -/
theorem inner_word {A P C c : List Nat} (h : (c, true) ∈ runsA [] false P) : c ∈ wordsA [] (A ++ (P ++ C)) := by
  rcases inner_at P [] false c (by simp) h with ⟨h1, _⟩ | ⟨P1, x, y, P2, rfl, hx, hy, hn, hw⟩
  · cases h1
  · have e : A ++ ((P1 ++ x :: (c ++ y :: P2)) ++ C) = (A ++ P1) ++ x :: (c ++ y :: (P2 ++ C)) := by simp
    rw [e, wordsA_mark hx, wordsA_mark hy, wordsA_one hw hn]
    simp

/-! ### Over bytes -/
theorem rs_encs {R : List Nat} (h : ∀ r ∈ R, sc r) : rs (encs R) = R := by
  unfold rs
  rw [runes_encs' R h, List.map_map]
  conv => rhs; rw [← List.map_id R]
  rfl
theorem rs_sc (s : List UInt8) : ∀ r ∈ rs s, sc r := by
  intro r hr
  obtain ⟨p, hp, rfl⟩ := List.mem_map.1 hr
  exact runes_sc s p hp
theorem wof_small (c : List Nat) : wof (c.map smallN) = wof c := by
  unfold wof
  rw [← List.map_take, List.map_map]
  congr 1
  exact List.map_congr_left fun r _ => smallN_smallN r
theorem words_fold (s : List UInt8) : words (fold s) = words s := by
  unfold words
  have e : rs (fold s) = (rs s).map smallN := by
    rw [fold_encs, rs_encs (fold_sc s)]
    unfold rs
    rw [List.map_map]
    rfl
  have h := wordsA_map (f := smallN) wd_small (rs s) []
  rw [List.map_nil] at h
  rw [e, h, List.map_map]
  exact List.map_congr_left fun c _ => wof_small c
/-- Each word by itself. -/
theorem wof_self {c : List Nat} (hn : c ≠ []) (hw : ∀ r ∈ c, wd r = true) (hs : ∀ r ∈ c, sc r) : rs (wof c) = (c.take 32).map smallN ∧ (∀ r ∈ rs (wof c), wd r = true) ∧ rs (wof c) ≠ [] ∧ words (wof c) = [wof c] ∧ 1 ≤ cnt (wof c) ∧ cnt (wof c) ≤ 32 := by
  have hs' : ∀ r ∈ (c.take 32).map smallN, sc r := by
    intro r hr
    obtain ⟨x, hx, rfl⟩ := List.mem_map.1 hr
    exact smallN_sc (hs x (List.mem_of_mem_take hx))
  have e : rs (wof c) = (c.take 32).map smallN := rs_encs hs'
  have hw' : ∀ r ∈ (c.take 32).map smallN, wd r = true := by
    intro r hr
    obtain ⟨x, hx, rfl⟩ := List.mem_map.1 hr
    rw [wd_small]
    exact hw x (List.mem_of_mem_take hx)
  have hn' : (c.take 32).map smallN ≠ [] := by
    intro h
    have := congrArg List.length h
    have hp := List.length_pos_iff.2 hn
    rw [List.length_map, List.length_take, List.length_nil] at this
    omega
  refine ⟨e, by rw [e]; exact hw', by rw [e]; exact hn', ?_, ?_, ?_⟩
  · unfold words
    rw [e, wordsA_one hw' hn', List.map_cons, List.map_nil]
    congr 1
    rw [wof_small]
    unfold wof
    rw [List.take_take, Nat.min_self]
  · have h1 : cnt (wof c) = (rs (wof c)).length := by unfold cnt rs; simp
    rw [h1]
    have := List.length_pos_iff.2 (show rs (wof c) ≠ [] by rw [e]; exact hn')
    omega
  · have h1 : cnt (wof c) = (rs (wof c)).length := by unfold cnt rs; simp
    rw [h1, e]
    simp
    omega
theorem wordsA_mem_sc (R : List Nat) : ∀ (cur : List Nat), (∀ r ∈ cur, sc r) → (∀ r ∈ R, sc r) → ∀ c ∈ wordsA cur R, ∀ r ∈ c, sc r := by
  induction R with
  | nil =>
    intro cur hc _ c h
    unfold wordsA at h
    split at h
    · cases h
    · rw [List.mem_singleton] at h
      subst h
      exact hc
  | cons x R ih =>
    intro cur hc hR c h
    have hR' : ∀ r ∈ R, sc r := fun r hr => hR r (by simp [hr])
    unfold wordsA at h
    split at h
    · refine ih _ (fun y hy => ?_) hR' c h
      rcases List.mem_append.1 hy with hy | hy
      · exact hc y hy
      · rw [List.mem_singleton] at hy
        rw [hy]
        exact hR x (by simp)
    · split at h
      · exact ih [] (by simp) hR' c h
      · rcases List.mem_cons.1 h with rfl | h
        · exact hc
        · exact ih [] (by simp) hR' c h
/-- What each word is. -/
theorem words_are (s : List UInt8) : ∀ w ∈ words s, ∃ c, w = wof c ∧ c ≠ [] ∧ (∀ r ∈ c, wd r = true) ∧ ∀ r ∈ c, sc r := by
  intro w hw
  obtain ⟨c, hc, rfl⟩ := List.mem_map.1 hw
  have h := wordsA_all (rs s) [] (by simp) c hc
  exact ⟨c, rfl, h.1, h.2, wordsA_mem_sc (rs s) [] (by simp) (rs_sc s) c hc⟩

/-! ### A byte below 128 between two texts -/
theorem at_app_left {a b : List UInt8} {k : Nat} (h : k < a.length) : at' (a ++ b) k = at' a k := by
  unfold at'
  rw [List.getD_eq_getElem?_getD, List.getD_eq_getElem?_getD, List.getElem?_append_left h]
theorem cont_cut {a t : List UInt8} {x : UInt8} (hx : x.toNat < 128) (k : Nat) : cont (a ++ x :: t) k = true → k ≤ a.length → cont a k = true := by
  intro h hk
  obtain ⟨h1, h2⟩ := cont_cons h
  rcases Nat.lt_or_ge k a.length with hlt | hge
  · unfold cont
    rw [at_app_left hlt] at h2
    simp [hlt, h2]
  · obtain rfl : k = a.length := by omega
    have : at' (a ++ x :: t) a.length = x.toNat := by
      unfold at'
      rw [List.getD_eq_getElem?_getD, List.getElem?_append_right (Nat.le_refl _), Nat.sub_self]
      rfl
    omega
theorem cont_up {a t : List UInt8} {k : Nat} : cont a k = true → cont (a ++ t) k = true := by
  intro h
  obtain ⟨h1, h2⟩ := cont_cons h
  unfold cont
  rw [at_app_left h1]
  simp [h2]
  omega
/-- A text's first rune doesn't hang on what stands behind a byte below 128. -/
theorem dec_cut {a : List UInt8} (ha : a ≠ []) {x : UInt8} (hx : x.toNat < 128) (t : List UInt8) : dec (a ++ x :: t) = dec a := by
  have h0 : at' (a ++ x :: t) 0 = at' a 0 := at_app_left (List.length_pos_iff.2 ha)
  have hlen := List.length_pos_iff.2 ha
  have c1 : cont (a ++ x :: t) 1 = cont a 1 := by
    rw [Bool.eq_iff_iff]
    exact ⟨fun h => cont_cut hx 1 h (by omega), cont_up⟩
  have v1 : cont a 1 = true → at' (a ++ x :: t) 1 = at' a 1 := fun h => at_app_left (cont_cons h).1
  have c2 : cont a 1 = true → cont (a ++ x :: t) 2 = cont a 2 := fun h => by
    have := (cont_cons h).1
    rw [Bool.eq_iff_iff]
    exact ⟨fun h => cont_cut hx 2 h (by omega), cont_up⟩
  have v2 : cont a 2 = true → at' (a ++ x :: t) 2 = at' a 2 := fun h => at_app_left (cont_cons h).1
  have c3 : cont a 2 = true → cont (a ++ x :: t) 3 = cont a 3 := fun h => by
    have := (cont_cons h).1
    rw [Bool.eq_iff_iff]
    exact ⟨fun h => cont_cut hx 3 h (by omega), cont_up⟩
  have v3 : cont a 3 = true → at' (a ++ x :: t) 3 = at' a 3 := fun h => at_app_left (cont_cons h).1
  unfold dec
  rw [h0, c1]
  cases k1 : cont a 1 with
  | false => simp
  | true =>
    rw [v1 k1, c2 k1]
    cases k2 : cont a 2 with
    | false => simp
    | true =>
      rw [v2 k2, c3 k2]
      cases k3 : cont a 3 with
      | false => simp
      | true => rw [v3 k3]
theorem dec_cut_len {a : List UInt8} (ha : a ≠ []) : (dec a).2 ≤ a.length := (dec_len ha).2.1
theorem runes_mark (a : List UInt8) {x : UInt8} (hx : x.toNat < 128) (t : List UInt8) : runes (a ++ x :: t) = runes a ++ (x.toNat, 1) :: runes t := by
  refine by_runes (C := fun a => runes (a ++ x :: t) = runes a ++ (x.toNat, 1) :: runes t) ?_ (fun b l ih => ?_) a
  · have h := runes_enc (r := x.toNat) (.inl (by omega)) t
    rw [enc_one (b0 := x) hx rfl] at h
    rw [runes_nil]
    exact h
  · have h1 := dec_cut (a := b :: l) (by simp) hx t
    have h2 := dec_cut_len (a := b :: l) (by simp)
    rw [runes_cons (l := (b :: l) ++ x :: t) (by simp), runes_cons (l := b :: l) (by simp), h1, List.drop_append_of_le_length h2, ih]
    rfl
theorem words_mark (a t : List UInt8) {x : UInt8} (hx : x.toNat < 128) (hw : wd x.toNat = false) : words (a ++ x :: t) = words a ++ words t := by
  unfold words
  have e : rs (a ++ x :: t) = rs a ++ x.toNat :: rs t := by unfold rs; rw [runes_mark a hx t]; simp
  rw [e, wordsA_mark hw, List.map_append]

/-! ### A valid part of a valid line -/
theorem part_of {L : List Nat} (hL : ∀ r ∈ L, sc r) {i n : Nat} (hi : i + n ≤ (encs L).length) (hv : vals (((encs L).drop i).take n) = true) (hn : 0 < n) :
    ∃ A P C, L = A ++ (P ++ C) ∧ ((encs L).drop i).take n = encs P := by
  rcases place hL (k := i) (by omega) with ⟨a, b, rfl, rfl⟩ | ⟨a, r, b, j, rfl, rfl, h0, h1⟩
  · have hb : ∀ r ∈ b, sc r := fun r hr => hL r (by simp [hr])
    have e : (encs (a ++ b)).drop (encs a).length = encs b := by rw [encs_append, List.drop_left]
    rw [e] at hv ⊢
    rw [encs_append, List.length_append] at hi
    rcases place hb (k := n) (by omega) with ⟨p, q, rfl, rfl⟩ | ⟨p, r, q, j, rfl, rfl, h0, h1⟩
    · exact ⟨a, p, q, rfl, by rw [encs_append, List.take_left]⟩
    · exfalso
      have hp : ∀ r ∈ p, sc r := fun r hr => hb r (by simp [hr])
      have e1 : (encs (p ++ r :: q)).take ((encs p).length + j) = encs p ++ (enc r).take j := by
        rw [encs_append, encs_cons, List.take_append, List.take_of_length_le (by omega), show (encs p).length + j - (encs p).length = j by omega, List.take_append_of_le_length (by omega)]
      rw [e1, vals_part hp, vals_begin (hb r (by simp)) h0 h1] at hv
      cases hv
  · exfalso
    have hr := hL r (by simp)
    obtain ⟨t0, t1⟩ := enc_tail hr h0 h1
    have e : (encs (a ++ r :: b)).drop ((encs a).length + j) = (enc r)[j] :: ((enc r).drop (j + 1) ++ encs b) := by
      rw [encs_append, encs_cons, List.drop_append, List.drop_eq_nil_of_le (by omega), show (encs a).length + j - (encs a).length = j by omega, List.drop_append_of_le_length (by omega), List.nil_append, List.drop_eq_getElem_cons h1]
      rfl
    obtain ⟨m, rfl⟩ : ∃ m, n = m + 1 := ⟨n - 1, by omega⟩
    rw [e, List.take_succ_cons, vals_later _ t0 t1] at hv
    cases hv
/-- The inner words of a valid part of a valid line are words of the line. -/
theorem inner_sub {line : List UInt8} (hl : vals line = true) {i n : Nat} (hi : i + n ≤ line.length) (hv : vals ((line.drop i).take n) = true) : ∀ w ∈ inners ((line.drop i).take n), w ∈ words line := by
  obtain ⟨L, hL, rfl⟩ := vals_of line hl
  rcases Nat.eq_zero_or_pos n with rfl | hn
  · intro w hw
    rw [List.take_zero] at hw
    simp [inners, rs, runes_nil, runsA] at hw
  · obtain ⟨A, P, C, rfl, e⟩ := part_of hL hi hv hn
    have hP : ∀ r ∈ P, sc r := fun r hr => hL r (by simp [hr])
    intro w hw
    rw [e] at hw
    unfold inners at hw
    rw [rs_encs hP] at hw
    obtain ⟨⟨c, b⟩, hc, rfl⟩ := List.mem_map.1 hw
    obtain ⟨h1, h2⟩ := List.mem_filter.1 hc
    simp only at h2
    subst h2
    unfold words
    rw [rs_encs hL]
    exact List.mem_map.2 ⟨c, inner_word h1, rfl⟩
/-- With a mark on both sides all words are inner ones. -/
theorem inners_marks (s : List UInt8) {x y : UInt8} (hx : x.toNat < 128) (hy : y.toNat < 128) (wx : wd x.toNat = false) (wy : wd y.toNat = false) : inners (x :: (s ++ [y])) = words s := by
  have e : rs (x :: (s ++ [y])) = x.toNat :: (rs s ++ [y.toNat]) := by
    unfold rs
    have h1 := runes_mark [] hx (s ++ [y])
    rw [List.nil_append, runes_nil, List.nil_append] at h1
    rw [h1, runes_mark s hy []]
    simp [runes_nil]
  unfold inners words
  have wx' : ¬ wd x.toNat = true := by rw [wx]; decide
  rw [e, runsA, if_neg wx', if_pos rfl, runsA_shut wy]
  rw [List.filter_map, List.map_map]
  congr 1
  rw [List.filter_eq_self]
  intro c _
  rfl
end Go.Proofs.YtkgmcabamhpjhaaGreat.TxSpec

