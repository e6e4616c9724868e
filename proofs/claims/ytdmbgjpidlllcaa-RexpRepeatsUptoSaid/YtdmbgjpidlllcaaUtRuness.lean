/- The contract of the document's One: the rune that begins at a place, and how many bytes it has. Conditions: the place lies in the text; a length that the model has. · The contract of the document's Runes: a text's runes, in new memory, and whether it is valid. Condition: the text has at most 2^40 bytes. · The contract of the document's Runes as layer 18's texts take it. No conditions. -/
import Derived.Test.YtdmbgjpidlllcaaUts
import Derived.IntWalk
import Derived.Test.YtdmbgjpidlllcaaUtOwns
import Derived.Test.YtdmbgjpidlllcaaRxParses
namespace Go.Proofs.Ytdmbgjpidlllcaa.UtOne
open Go Go.RowKit UtSpec UtShelf UtSmall UtRange

def val (l : List UInt8) (c0 : Nat) : Nat → Nat
  | 0 => c0
  | 1 => c0
  | k + 2 => val l c0 (k + 1) * 64 + at' l (k + 1) % 64
theorem val_next (l : List UInt8) (c0 : Nat) {i : Nat} (h : 1 ≤ i) : val l c0 (i + 1) = val l c0 i * 64 + at' l i % 64 := by
  obtain ⟨k, rfl⟩ : ∃ k, i = k + 1 := ⟨i - 1, by omega⟩
  rfl
theorem val_le (l : List UInt8) {c0 : Nat} (h : c0 ≤ 31) {i : Nat} (h1 : 1 ≤ i) (hi : i ≤ 4) : val l c0 i ≤ 8388607 := by
  have e1 : val l c0 2 = val l c0 1 * 64 + at' l 1 % 64 := val_next l c0 (by omega)
  have e2 : val l c0 3 = val l c0 2 * 64 + at' l 2 % 64 := val_next l c0 (by omega)
  have e3 : val l c0 4 = val l c0 3 * 64 + at' l 3 % 64 := val_next l c0 (by omega)
  have e0 : val l c0 1 = c0 := rfl
  have : i = 1 ∨ i = 2 ∨ i = 3 ∨ i = 4 := by omega
  rcases this with rfl | rfl | rfl | rfl <;> omega
theorem ret_two {a b c d : Int} (h : a = c) (h' : b = d) : Ending.returned (.tuple #[.int .i32 a, .int .i64 b]) = .returned (.tuple #[.int .i32 c, .int .i64 d]) := by rw [h, h']
def OneIs (l : List UInt8) (w : World) (e : Ending) (w' : World) : Prop := e = .returned (.tuple #[.int .i32 ((dec l).1 : Nat), .int .i64 ((dec l).2 : Nat)]) ∧ w = w'
theorem one_is {l : List UInt8} {w : World} {a b : Nat} {x y : Int} (h : dec l = (a, b)) (hx : x = (a : Int)) (hy : y = (b : Int)) : OneIs l w (.returned (.tuple #[.int .i32 x, .int .i64 y])) w := by
  refine ⟨?_, rfl⟩
  rw [h, hx, hy]
theorem at_byte {s : ByteArray} {p k : Nat} (h : p + k < s.size) : (s[p + k]'h).toNat = at' (s.data.toList.drop p) k := by
  have h' : k < (s.data.toList.drop p).length := by
    have e2 : s.data.size = s.size := rfl
    rw [List.length_drop]; simp; omega
  rw [at_get h', List.getElem_drop]
  rfl
theorem cont_eq {s : ByteArray} {p k : Nat} : cont (s.data.toList.drop p) k = (decide (p + k < s.size) && at' (s.data.toList.drop p) k / 64 == 2) := by
  have e2 : s.data.size = s.size := rfl
  unfold cont
  congr 1
  rw [decide_eq_decide, List.length_drop]
  simp
  omega
theorem fin_bad {l : List UInt8} {V low n : Nat} (h : dec l = if V ≥ low && okr V then (V, n) else (0xFFFD, 1)) (hb : V < low ∨ V > 1114111 ∨ (55296 ≤ V ∧ V ≤ 57343)) : dec l = (0xFFFD, 1) := by
  rw [h, if_neg]
  unfold okr
  simp
  omega
theorem fin_ok {l : List UInt8} {V low n : Nat} (h : dec l = if V ≥ low && okr V then (V, n) else (0xFFFD, 1)) (h0 : low ≤ V) (h1 : V ≤ 1114111) (h2 : ¬ (55296 ≤ V ∧ V ≤ 57343)) : dec l = (V, n) := by
  rw [h, if_pos]
  unfold okr
  simp
  omega
/-- A byte that is no later one stops it. -/
theorem stop1 {l : List UInt8} {c : Nat} (hc : at' l 0 = c) (h0 : 192 ≤ c) (h1 : c < 224) {j : Nat} (hj : 1 ≤ j) (hj' : j ≤ 1) (h : cont l j = false) : dec l = (0xFFFD, 1) := by
  obtain rfl : j = 1 := by omega
  have q1 : (c / 16 == 14) = false := by simp; omega
  have q2 : (c / 8 == 30) = false := by simp; omega
  unfold dec
  rw [hc, h, q1, q2, if_neg (by omega)]
  simp
theorem stop2 {l : List UInt8} {c : Nat} (hc : at' l 0 = c) (h0 : 224 ≤ c) (h1 : c < 240) {j : Nat} (hj : 1 ≤ j) (hj' : j ≤ 2) (h : cont l j = false) : dec l = (0xFFFD, 1) := by
  have q1 : (c / 32 == 6) = false := by simp; omega
  have q2 : (c / 8 == 30) = false := by simp; omega
  unfold dec
  rw [hc, q1, q2, if_neg (by omega)]
  have : j = 1 ∨ j = 2 := by omega
  rcases this with rfl | rfl <;> simp [h]
theorem stop3 {l : List UInt8} {c : Nat} (hc : at' l 0 = c) (h0 : 240 ≤ c) (h1 : c < 248) {j : Nat} (hj : 1 ≤ j) (hj' : j ≤ 3) (h : cont l j = false) : dec l = (0xFFFD, 1) := by
  have q1 : (c / 32 == 6) = false := by simp; omega
  have q2 : (c / 16 == 14) = false := by simp; omega
  unfold dec
  rw [hc, q1, q2, if_neg (by omega)]
  have : j = 1 ∨ j = 2 ∨ j = 3 := by omega
  rcases this with rfl | rfl | rfl <;> simp [h]
theorem stop0 {l : List UInt8} {c : Nat} (hc : at' l 0 = c) (h0 : 128 ≤ c) (h : c < 192 ∨ 248 ≤ c) (h1 : c < 256) : dec l = (0xFFFD, 1) := by
  have q1 : (c / 32 == 6) = false := by simp; omega
  have q2 : (c / 16 == 14) = false := by simp; omega
  have q3 : (c / 8 == 30) = false := by simp; omega
  unfold dec
  rw [hc, q1, q2, q3, if_neg (by omega)]
  simp
theorem go1 {l : List UInt8} {c : Nat} (hc : at' l 0 = c) (h0 : 192 ≤ c) (h1 : c < 224) (h : ∀ j, 1 ≤ j → j < 2 → cont l j = true) : dec l = if val l (c - 192) 2 ≥ 128 && okr (val l (c - 192) 2) then (val l (c - 192) 2, 2) else (0xFFFD, 1) := by
  have q1 : (c / 32 == 6) = true := by simp; omega
  have e : val l (c - 192) 2 = (c % 32) * 64 + at' l 1 % 64 := by
    rw [val_next l _ (by omega)]
    show (c - 192) * 64 + _ = _
    omega
  have ok : okr (val l (c - 192) 2) = true := sc_okr (.inl (by rw [e]; omega))
  unfold dec
  rw [hc, q1, h 1 (by omega) (by omega), if_neg (by omega), ok, e]
  simp
theorem go2 {l : List UInt8} {c : Nat} (hc : at' l 0 = c) (h0 : 224 ≤ c) (h1 : c < 240) (h : ∀ j, 1 ≤ j → j < 3 → cont l j = true) : dec l = if val l (c - 224) 3 ≥ 2048 && okr (val l (c - 224) 3) then (val l (c - 224) 3, 3) else (0xFFFD, 1) := by
  have q1 : (c / 32 == 6) = false := by simp; omega
  have q2 : (c / 16 == 14) = true := by simp; omega
  have e : val l (c - 224) 3 = (c % 16) * 4096 + (at' l 1 % 64) * 64 + at' l 2 % 64 := by
    rw [val_next l _ (by omega), val_next l _ (by omega)]
    show ((c - 224) * 64 + _) * 64 + _ = _
    omega
  unfold dec
  rw [hc, q1, q2, h 1 (by omega) (by omega), h 2 (by omega) (by omega), if_neg (by omega), e]
  simp
theorem go3 {l : List UInt8} {c : Nat} (hc : at' l 0 = c) (h0 : 240 ≤ c) (h1 : c < 248) (h : ∀ j, 1 ≤ j → j < 4 → cont l j = true) : dec l = if val l (c - 240) 4 ≥ 65536 && okr (val l (c - 240) 4) then (val l (c - 240) 4, 4) else (0xFFFD, 1) := by
  have q1 : (c / 32 == 6) = false := by simp; omega
  have q2 : (c / 16 == 14) = false := by simp; omega
  have q3 : (c / 8 == 30) = true := by simp; omega
  have e : val l (c - 240) 4 = (c % 8) * 262144 + (at' l 1 % 64) * 4096 + (at' l 2 % 64) * 64 + at' l 3 % 64 := by
    rw [val_next l _ (by omega), val_next l _ (by omega), val_next l _ (by omega)]
    show (((c - 240) * 64 + _) * 64 + _) * 64 + _ = _
    omega
  unfold dec
  rw [hc, q1, q2, q3, h 1 (by omega) (by omega), h 2 (by omega) (by omega), h 3 (by omega) (by omega), if_neg (by omega), e]
  simp

def ORel (l : List UInt8) (c0 n : Nat) (c k : Value) : Prop :=
  ∃ i : Nat, 1 ≤ i ∧ i ≤ n + 1 ∧ k = .int .i64 (i : Int) ∧ c = .int .i64 (val l c0 i : Nat) ∧ Hid (∀ j, 1 ≤ j → j < i → cont l j = true)

set_option maxHeartbeats 1600000 in
set_option maxRecDepth 100000 in
theorem one_1 (s : ByteArray) (p : Nat) (hp : p < s.size) (hs : s.size ≤ 9223372036854775000) (w : World) (h0 : 192 ≤ (s[p]'hp).toNat) (h1 : (s[p]'hp).toNat < 224) :
    Calls Try.prog 28 #[.string s, .int .i64 (p : Int)] w (OneIs (s.data.toList.drop p) w) := by
  obtain ⟨c, hc⟩ : ∃ c, (s[p]'hp).toNat = c := ⟨_, rfl⟩
  rw [hc] at h0 h1
  obtain ⟨l, hl⟩ : ∃ l, s.data.toList.drop p = l := ⟨_, rfl⟩
  have HA : Hid (at' l 0 = c) := Lib.hid (by rw [← hc, ← hl]; exact (at_byte (p := p) (k := 0) (by simpa using hp)).symm)
  have HC : Hid (∀ k, cont l k = (decide (p + k < s.size) && at' l k / 64 == 2)) := Lib.hid (fun k => by rw [← hl]; exact cont_eq)
  have HB : Hid (∀ k (h : p + k < s.size), (s[p + k]'h).toNat = at' l k) := Lib.hid (fun k h => by rw [← hl]; exact at_byte h)
  have hS : ∀ j : Nat, 1 ≤ j → j ≤ 1 → cont l j = false → dec l = (0xFFFD, 1) := fun j a b d => stop1 HA.out h0 h1 a b d
  have HS : Hid (∀ j : Nat, 1 ≤ j → j ≤ 1 → cont l j = false → dec l = (0xFFFD, 1)) := Lib.hid hS
  have HG : Hid ((∀ j, 1 ≤ j → j < 2 → cont l j = true) → dec l = if val l (c - 192) 2 ≥ 128 && okr (val l (c - 192) 2) then (val l (c - 192) 2, 2) else (0xFFFD, 1)) := Lib.hid (go1 HA.out h0 h1)
  rw [hl]
  obtain ⟨c0, hc0⟩ : ∃ c0, c - 192 = c0 := ⟨_, rfl⟩
  rw [hc0] at HG
  have hcc : c = c0 + 192 := by omega
  have hc31 : c0 ≤ 31 := by omega
  have HM : Hid ((c : Int) - 192 = (c0 : Int)) := Lib.hid (by omega)
  have hb1 : decide ((c : Int) < 128) = false := by simp; omega
  have hb2 : decide ((192 : Int) ≤ c) = true := by simp; omega
  have hb3 : decide ((c : Int) < 224) = true := by simp; omega
  clear hl hS hc0 hcc
  go_enter Try.func28, Try.ntmps28
  go_wp2
  rw [HM.out]
  go_loop [6, 9] (fun cv kv => ORel l c0 1 cv kv) (fun _ kv => 2 - (intOf kv).toNat)
  case atStart => exact ⟨1, Nat.le_refl _, by omega, rfl, rfl, Lib.hid (fun j h h' => by omega)⟩
  case round =>
    obtain ⟨i, hi1, hi2, rfl, rfl, hco⟩ := hrel
    have hvl := val_le l hc31 hi1 (by omega)
    by_cases hlt : i ≤ 1
    · by_cases hlen : p + i < s.size
      · have hb := HB.out i hlen
        have hbl : at' l i < 256 := (l.getD i 0).toNat_lt
        have hnx := val_next l c0 hi1
        obtain ⟨b, hbb⟩ : ∃ b, at' l i = b := ⟨_, rfl⟩
        rw [hbb] at hb hnx hbl
        by_cases hct : b / 64 = 2
        · have hq : (((b : Int) / 64) != 2) = false := by simp; omega
          have hq0 : (((b : Int) / 64) == 2) = true := by simp; omega
          have HN : Hid ((val l c0 i : Int) * 64 + (b : Int) % 64 = ((val l c0 (i + 1) : Nat) : Int)) := Lib.hid (by rw [hnx]; omega)
          have HO : Hid (∀ j, 1 ≤ j → j < i + 1 → cont l j = true) := Lib.hid (fun j h h' => by
            by_cases hji : j = i
            · subst hji
              rw [HC.out, hbb]
              simp [hlen, hct]
            · exact hco.out j h (by omega))
          clear hnx hbb hct hco
          go_wp2
          rw [HN.out]
          go_round
          case rel => exact ⟨i + 1, by omega, by omega, by go_num, rfl, HO⟩
          case measure => simp [intOf]; omega
        · have hq : (((b : Int) / 64) != 2) = true := by simp; omega
          have hq0 : (((b : Int) / 64) == 2) = false := by simp; omega
          have HD : Hid (dec l = (0xFFFD, 1)) := Lib.hid (HS.out i hi1 hlt (by rw [HC.out, hbb]; simp [hct]))
          clear hnx hbb hct hco
          go_wp2
          go_ret2
          exact one_is HD.out rfl rfl
      · have HD : Hid (dec l = (0xFFFD, 1)) := Lib.hid (HS.out i hi1 hlt (by rw [HC.out]; simp [hlen]))
        clear hco
        go_wp2
        go_ret2
        exact one_is HD.out rfl rfl
    · obtain rfl : i = 2 := by omega
      have HD := Lib.hid (HG.out hco.out)
      obtain ⟨V, hV⟩ : ∃ V, val l c0 2 = V := ⟨_, rfl⟩
      rw [hV] at HD hvl ⊢
      clear hco hV hlt
      go_wp2
      all_goals
        go_ret2
        first
          | exact one_is (fin_bad HD.out (by omega)) rfl rfl
          | exact one_is (fin_ok HD.out (by omega) (by omega) (by omega)) rfl rfl

set_option maxHeartbeats 1600000 in
set_option maxRecDepth 100000 in
theorem one_2 (s : ByteArray) (p : Nat) (hp : p < s.size) (hs : s.size ≤ 9223372036854775000) (w : World) (h0 : 224 ≤ (s[p]'hp).toNat) (h1 : (s[p]'hp).toNat < 240) :
    Calls Try.prog 28 #[.string s, .int .i64 (p : Int)] w (OneIs (s.data.toList.drop p) w) := by
  obtain ⟨c, hc⟩ : ∃ c, (s[p]'hp).toNat = c := ⟨_, rfl⟩
  rw [hc] at h0 h1
  obtain ⟨l, hl⟩ : ∃ l, s.data.toList.drop p = l := ⟨_, rfl⟩
  have HA : Hid (at' l 0 = c) := Lib.hid (by rw [← hc, ← hl]; exact (at_byte (p := p) (k := 0) (by simpa using hp)).symm)
  have HC : Hid (∀ k, cont l k = (decide (p + k < s.size) && at' l k / 64 == 2)) := Lib.hid (fun k => by rw [← hl]; exact cont_eq)
  have HB : Hid (∀ k (h : p + k < s.size), (s[p + k]'h).toNat = at' l k) := Lib.hid (fun k h => by rw [← hl]; exact at_byte h)
  have hS : ∀ j : Nat, 1 ≤ j → j ≤ 2 → cont l j = false → dec l = (0xFFFD, 1) := fun j a b d => stop2 HA.out h0 h1 a b d
  have HS : Hid (∀ j : Nat, 1 ≤ j → j ≤ 2 → cont l j = false → dec l = (0xFFFD, 1)) := Lib.hid hS
  have HG : Hid ((∀ j, 1 ≤ j → j < 3 → cont l j = true) → dec l = if val l (c - 224) 3 ≥ 2048 && okr (val l (c - 224) 3) then (val l (c - 224) 3, 3) else (0xFFFD, 1)) := Lib.hid (go2 HA.out h0 h1)
  rw [hl]
  obtain ⟨c0, hc0⟩ : ∃ c0, c - 224 = c0 := ⟨_, rfl⟩
  rw [hc0] at HG
  have hcc : c = c0 + 224 := by omega
  have hc31 : c0 ≤ 31 := by omega
  have HM : Hid ((c : Int) - 224 = (c0 : Int)) := Lib.hid (by omega)
  have hb1 : decide ((c : Int) < 128) = false := by simp; omega
  have hb2 : decide ((192 : Int) ≤ c) = true := by simp; omega
  have hb3 : decide ((c : Int) < 224) = false := by simp; omega
  have hb4 : decide ((224 : Int) ≤ c) = true := by simp; omega
  have hb5 : decide ((c : Int) < 240) = true := by simp; omega
  clear hl hS hc0 hcc
  go_enter Try.func28, Try.ntmps28
  go_wp2
  rw [HM.out]
  go_loop [6, 9] (fun cv kv => ORel l c0 2 cv kv) (fun _ kv => 3 - (intOf kv).toNat)
  case atStart => exact ⟨1, Nat.le_refl _, by omega, rfl, rfl, Lib.hid (fun j h h' => by omega)⟩
  case round =>
    obtain ⟨i, hi1, hi2, rfl, rfl, hco⟩ := hrel
    have hvl := val_le l hc31 hi1 (by omega)
    by_cases hlt : i ≤ 2
    · by_cases hlen : p + i < s.size
      · have hb := HB.out i hlen
        have hbl : at' l i < 256 := (l.getD i 0).toNat_lt
        have hnx := val_next l c0 hi1
        obtain ⟨b, hbb⟩ : ∃ b, at' l i = b := ⟨_, rfl⟩
        rw [hbb] at hb hnx hbl
        by_cases hct : b / 64 = 2
        · have hq : (((b : Int) / 64) != 2) = false := by simp; omega
          have hq0 : (((b : Int) / 64) == 2) = true := by simp; omega
          have HN : Hid ((val l c0 i : Int) * 64 + (b : Int) % 64 = ((val l c0 (i + 1) : Nat) : Int)) := Lib.hid (by rw [hnx]; omega)
          have HO : Hid (∀ j, 1 ≤ j → j < i + 1 → cont l j = true) := Lib.hid (fun j h h' => by
            by_cases hji : j = i
            · subst hji
              rw [HC.out, hbb]
              simp [hlen, hct]
            · exact hco.out j h (by omega))
          clear hnx hbb hct hco
          go_wp2
          rw [HN.out]
          go_round
          case rel => exact ⟨i + 1, by omega, by omega, by go_num, rfl, HO⟩
          case measure => simp [intOf]; omega
        · have hq : (((b : Int) / 64) != 2) = true := by simp; omega
          have hq0 : (((b : Int) / 64) == 2) = false := by simp; omega
          have HD : Hid (dec l = (0xFFFD, 1)) := Lib.hid (HS.out i hi1 hlt (by rw [HC.out, hbb]; simp [hct]))
          clear hnx hbb hct hco
          go_wp2
          go_ret2
          exact one_is HD.out rfl rfl
      · have HD : Hid (dec l = (0xFFFD, 1)) := Lib.hid (HS.out i hi1 hlt (by rw [HC.out]; simp [hlen]))
        clear hco
        go_wp2
        go_ret2
        exact one_is HD.out rfl rfl
    · obtain rfl : i = 3 := by omega
      have HD := Lib.hid (HG.out hco.out)
      obtain ⟨V, hV⟩ : ∃ V, val l c0 3 = V := ⟨_, rfl⟩
      rw [hV] at HD hvl ⊢
      clear hco hV hlt
      go_wp2
      all_goals
        go_ret2
        first
          | exact one_is (fin_bad HD.out (by omega)) rfl rfl
          | exact one_is (fin_ok HD.out (by omega) (by omega) (by omega)) rfl rfl

set_option maxHeartbeats 1600000 in
set_option maxRecDepth 100000 in
theorem one_3 (s : ByteArray) (p : Nat) (hp : p < s.size) (hs : s.size ≤ 9223372036854775000) (w : World) (h0 : 240 ≤ (s[p]'hp).toNat) (h1 : (s[p]'hp).toNat < 248) :
    Calls Try.prog 28 #[.string s, .int .i64 (p : Int)] w (OneIs (s.data.toList.drop p) w) := by
  obtain ⟨c, hc⟩ : ∃ c, (s[p]'hp).toNat = c := ⟨_, rfl⟩
  rw [hc] at h0 h1
  obtain ⟨l, hl⟩ : ∃ l, s.data.toList.drop p = l := ⟨_, rfl⟩
  have HA : Hid (at' l 0 = c) := Lib.hid (by rw [← hc, ← hl]; exact (at_byte (p := p) (k := 0) (by simpa using hp)).symm)
  have HC : Hid (∀ k, cont l k = (decide (p + k < s.size) && at' l k / 64 == 2)) := Lib.hid (fun k => by rw [← hl]; exact cont_eq)
  have HB : Hid (∀ k (h : p + k < s.size), (s[p + k]'h).toNat = at' l k) := Lib.hid (fun k h => by rw [← hl]; exact at_byte h)
  have hS : ∀ j : Nat, 1 ≤ j → j ≤ 3 → cont l j = false → dec l = (0xFFFD, 1) := fun j a b d => stop3 HA.out h0 h1 a b d
  have HS : Hid (∀ j : Nat, 1 ≤ j → j ≤ 3 → cont l j = false → dec l = (0xFFFD, 1)) := Lib.hid hS
  have HG : Hid ((∀ j, 1 ≤ j → j < 4 → cont l j = true) → dec l = if val l (c - 240) 4 ≥ 65536 && okr (val l (c - 240) 4) then (val l (c - 240) 4, 4) else (0xFFFD, 1)) := Lib.hid (go3 HA.out h0 h1)
  rw [hl]
  obtain ⟨c0, hc0⟩ : ∃ c0, c - 240 = c0 := ⟨_, rfl⟩
  rw [hc0] at HG
  have hcc : c = c0 + 240 := by omega
  have hc31 : c0 ≤ 31 := by omega
  have HM : Hid ((c : Int) - 240 = (c0 : Int)) := Lib.hid (by omega)
  have hb1 : decide ((c : Int) < 128) = false := by simp; omega
  have hb2 : decide ((192 : Int) ≤ c) = true := by simp; omega
  have hb3 : decide ((c : Int) < 224) = false := by simp; omega
  have hb4 : decide ((224 : Int) ≤ c) = true := by simp; omega
  have hb5 : decide ((c : Int) < 240) = false := by simp; omega
  have hb6 : decide ((240 : Int) ≤ c) = true := by simp; omega
  have hb7 : decide ((c : Int) < 248) = true := by simp; omega
  clear hl hS hc0 hcc
  go_enter Try.func28, Try.ntmps28
  go_wp2
  rw [HM.out]
  go_loop [6, 9] (fun cv kv => ORel l c0 3 cv kv) (fun _ kv => 4 - (intOf kv).toNat)
  case atStart => exact ⟨1, Nat.le_refl _, by omega, rfl, rfl, Lib.hid (fun j h h' => by omega)⟩
  case round =>
    obtain ⟨i, hi1, hi2, rfl, rfl, hco⟩ := hrel
    have hvl := val_le l hc31 hi1 (by omega)
    by_cases hlt : i ≤ 3
    · by_cases hlen : p + i < s.size
      · have hb := HB.out i hlen
        have hbl : at' l i < 256 := (l.getD i 0).toNat_lt
        have hnx := val_next l c0 hi1
        obtain ⟨b, hbb⟩ : ∃ b, at' l i = b := ⟨_, rfl⟩
        rw [hbb] at hb hnx hbl
        by_cases hct : b / 64 = 2
        · have hq : (((b : Int) / 64) != 2) = false := by simp; omega
          have hq0 : (((b : Int) / 64) == 2) = true := by simp; omega
          have HN : Hid ((val l c0 i : Int) * 64 + (b : Int) % 64 = ((val l c0 (i + 1) : Nat) : Int)) := Lib.hid (by rw [hnx]; omega)
          have HO : Hid (∀ j, 1 ≤ j → j < i + 1 → cont l j = true) := Lib.hid (fun j h h' => by
            by_cases hji : j = i
            · subst hji
              rw [HC.out, hbb]
              simp [hlen, hct]
            · exact hco.out j h (by omega))
          clear hnx hbb hct hco
          go_wp2
          rw [HN.out]
          go_round
          case rel => exact ⟨i + 1, by omega, by omega, by go_num, rfl, HO⟩
          case measure => simp [intOf]; omega
        · have hq : (((b : Int) / 64) != 2) = true := by simp; omega
          have hq0 : (((b : Int) / 64) == 2) = false := by simp; omega
          have HD : Hid (dec l = (0xFFFD, 1)) := Lib.hid (HS.out i hi1 hlt (by rw [HC.out, hbb]; simp [hct]))
          clear hnx hbb hct hco
          go_wp2
          go_ret2
          exact one_is HD.out rfl rfl
      · have HD : Hid (dec l = (0xFFFD, 1)) := Lib.hid (HS.out i hi1 hlt (by rw [HC.out]; simp [hlen]))
        clear hco
        go_wp2
        go_ret2
        exact one_is HD.out rfl rfl
    · obtain rfl : i = 4 := by omega
      have HD := Lib.hid (HG.out hco.out)
      obtain ⟨V, hV⟩ : ∃ V, val l c0 4 = V := ⟨_, rfl⟩
      rw [hV] at HD hvl ⊢
      clear hco hV hlt
      go_wp2
      all_goals
        go_ret2
        first
          | exact one_is (fin_bad HD.out (by omega)) rfl rfl
          | exact one_is (fin_ok HD.out (by omega) (by omega) (by omega)) rfl rfl

set_option maxHeartbeats 800000 in
set_option maxRecDepth 100000 in
theorem one_0 (s : ByteArray) (p : Nat) (hp : p < s.size) (w : World) (h0 : 128 ≤ (s[p]'hp).toNat) (h1 : (s[p]'hp).toNat < 192 ∨ 248 ≤ (s[p]'hp).toNat) :
    Calls Try.prog 28 #[.string s, .int .i64 (p : Int)] w (OneIs (s.data.toList.drop p) w) := by
  have hlt := (s[p]'hp).toNat_lt
  obtain ⟨c, hc⟩ : ∃ c, (s[p]'hp).toNat = c := ⟨_, rfl⟩
  rw [hc] at h0 h1 hlt
  have HD : Hid (dec (s.data.toList.drop p) = (0xFFFD, 1)) := Lib.hid (stop0 (by rw [← hc]; exact (at_byte (p := p) (k := 0) (by simpa using hp)).symm) h0 h1 hlt)
  generalize s.data.toList.drop p = l at HD
  rcases h1 with h1 | h1
  all_goals
    go_enter Try.func28, Try.ntmps28
    go_wp2
    go_ret2
    exact one_is HD.out rfl rfl
set_option maxHeartbeats 800000 in
set_option maxRecDepth 100000 in
theorem one_s (s : ByteArray) (p : Nat) (hp : p < s.size) (w : World) (h0 : (s[p]'hp).toNat < 128) :
    Calls Try.prog 28 #[.string s, .int .i64 (p : Int)] w (OneIs (s.data.toList.drop p) w) := by
  obtain ⟨c, hc⟩ : ∃ c, (s[p]'hp).toNat = c := ⟨_, rfl⟩
  rw [hc] at h0
  have HD : Hid (dec (s.data.toList.drop p) = (c, 1)) := Lib.hid (by
    have h := at_byte (s := s) (p := p) (k := 0) (by simpa using hp)
    unfold dec
    rw [← h]
    show (if (s[p]'hp).toNat < 128 then ((s[p]'hp).toNat, 1) else _) = _
    rw [hc, if_pos h0])
  generalize s.data.toList.drop p = l at HD
  go_enter Try.func28, Try.ntmps28
  go_wp2
  go_ret2
  exact one_is HD.out rfl rfl
/-- One. -/
theorem one_any (s : ByteArray) (p : Nat) (hp : p < s.size) (hs : s.size ≤ 9223372036854775000) (w : World) :
    Calls Try.prog 28 #[.string s, .int .i64 (p : Int)] w (OneIs (s.data.toList.drop p) w) := by
  by_cases a : (s[p]'hp).toNat < 128
  · exact one_s s p hp w a
  by_cases b : (s[p]'hp).toNat < 192
  · exact one_0 s p hp w (by omega) (.inl b)
  by_cases c : (s[p]'hp).toNat < 224
  · exact one_1 s p hp hs w (by omega) c
  by_cases d : (s[p]'hp).toNat < 240
  · exact one_2 s p hp hs w (by omega) d
  by_cases e : (s[p]'hp).toNat < 248
  · exact one_3 s p hp hs w (by omega) e
  · exact one_0 s p hp w (by omega) (.inr (by omega))
end Go.Proofs.Ytdmbgjpidlllcaa.UtOne

namespace Go.Proofs.Ytdmbgjpidlllcaa.UtRunes
open Go Go.RowKit Words App UtSpec UtShelf UtSmall UtRange UtOne UtOwn

def R32 (p : Nat × Nat) : Value := .int .i32 (p.1 : Int)
theorem info_i32 : (Try.prog.info? 21).map (fun i => (i.zero, i.size, i.bytes)) = some (some (.int .i32 0), 1, 4) := by kernel_rfl
def allok (R : List (Nat × Nat)) : Bool := R.all fun p => !bad p
theorem allok_snoc (R : List (Nat × Nat)) (p : Nat × Nat) : allok (R ++ [p]) = (allok R && !bad p) := by simp [allok]
def RRel (s : ByteArray) (w : World) (vl vv va : Value) (wr : World) : Prop :=
  ∃ (pos : Nat) (R : List (Nat × Nat)), va = .int .i64 (pos : Int) ∧ pos ≤ s.size ∧ R.length ≤ pos ∧ Hid (R ++ runes (s.data.toList.drop pos) = runes s.data.toList) ∧ vv = .bool (allok R) ∧
    wr.ownsRow w.heap.size 21 1 vl R.length (R.map R32) ∧ Below w.heap.size w wr
def RPost (s : ByteArray) (w : World) (e : Ending) (w' : World) : Prop :=
  ∃ v, e = .returned (.tuple #[v, .bool (vals s.data.toList)]) ∧ w'.ownsRow w.heap.size 21 1 v (runes s.data.toList).length ((runes s.data.toList).map R32) ∧ Below w.heap.size w w'
theorem one_at {s : ByteArray} {p r n : Nat} (hp : p < s.size) (hs : s.size ≤ 9223372036854775000) (hd : dec (s.data.toList.drop p) = (r, n)) (w : World) :
    Calls Try.prog 28 #[.string s, .int .i64 (p : Int)] w fun e w' => e = .returned (.tuple #[.int .i32 (r : Int), .int .i64 (n : Int)]) ∧ w = w' := by
  have h := one_any s p hp hs w
  unfold OneIs at h
  rw [hd] at h
  exact h
theorem own_snoc32 {w : World} {base : Nat} {v : Value} {R : List (Nat × Nat)} {r n : Nat} (h : w.ownsRow base 21 1 v (R.length + 1) (R.map R32 ++ [.int .i32 (r : Int)])) :
    w.ownsRow base 21 1 v (R ++ [(r, n)]).length ((R ++ [(r, n)]).map R32) := by
  simpa [R32] using h

set_option maxHeartbeats 1600000 in
set_option maxRecDepth 100000 in
theorem runes_any (s : ByteArray) (w : World) (hs : s.size ≤ 1099511627776) : Calls Try.prog 20 #[.string s] w (RPost s w) := by
  obtain ⟨i1, gi, gz0, gz1, gz2⟩ := info_parts info_i32
  go_enter Try.func20, Try.ntmps20
  go_wp2
  go_loopw [4, 5, 6] (fun vl vv va wr => RRel s w vl vv va wr) (fun _ _ va _ => s.size - (intOf va).toNat)
  case atStart => exact ⟨0, [], rfl, Nat.zero_le _, Nat.le_refl _, Lib.hid (by simp), rfl, World.ownsRow_nil .., Below.refl _ _⟩
  case round =>
    obtain ⟨pos, R, rfl, hp', hRl, hR, rfl, hown, hb⟩ := hrel
    by_cases hp : pos < s.size
    · obtain ⟨r, n, hd⟩ : ∃ r n, Utf8.decode s pos = (r, n) := ⟨_, _, rfl⟩
      obtain ⟨hdd, hr, hn1, hn2, hr1, _⟩ := rune_step hp hd
      have H1 := Lib.hid (one_at hp (by omega) hdd wr)
      have HR : Hid (R ++ [(r, n)] ++ runes (s.data.toList.drop (pos + n)) = runes s.data.toList) := Lib.hid (by
        rw [← hR.out, hr]
        simp)
      have HV := Lib.hid (allok_snoc R (r, n))
      obtain ⟨ok, hok⟩ : ∃ ok, allok R = ok := ⟨_, rfl⟩
      rw [hok] at HV ⊢
      have HO := Lib.hid hown
      have HB := Lib.hid hb
      have hbase := hb.size
      clear hd hdd hr hR hok hown hb
      have key : bad (r, n) = true ∧ ((n : Int) == 1) = true ∧ ((r : Int) == 65533) = true ∨ bad (r, n) = false ∧ ((n : Int) == 1) = true ∧ ((r : Int) == 65533) = false ∨ bad (r, n) = false ∧ ((n : Int) == 1) = false := by
        unfold bad
        by_cases h1 : n = 1 <;> by_cases h2 : r = 65533 <;> simp [h1, h2] <;> omega
      rcases key with ⟨hbad, k1, k2⟩ | ⟨hbad, k1, k2⟩ | ⟨hbad, k1⟩
      all_goals
        rw [hbad] at HV
        have HBD := Lib.hid hbad
        clear hbad
        go_wp2_with fail
        refine H1.out.mono ?_
        rintro e w' ⟨rfl, rfl⟩
        go_wp2_with (at_builtin; refine wpList_append_rd _ rfl (.tmp 19) (.tmp 21) 31 rfl w.heap.size 21 i1 (.int .i32 0) 4 Try.underlying31 gi gz0 gz1 gz2 rfl _ _ _ rfl (HO.out.alloc _) (wr.heap.size + 1) (some ⟨wr.heap.size, 0, none⟩) 1 1 [.int .i32 (r : Int)] rfl rfl (Rd.made wr #[.int .i32 (r : Int)] 21) ?f1 ?f2 ?f3 ?f4 ?_)
        case f1 => intro u hu; simp at hu; subst hu; rfl
        case f2 => unfold maxLen; omega
        case f3 => omega
        case f4 => simp; omega
        intro v' w2 hown2 hg _
        have HO2 := Lib.hid (own_snoc32 (n := n) hown2)
        have HB2 := Lib.hid (below_appw HO.out HB.out hg)
        clear hown2 hg HO HB H1
        go_wp2
        go_roundw
        case rel => exact ⟨pos + n, R ++ [(r, n)], by go_num, hn2, by simp; omega, HR, by rw [HV.out]; simp, HO2.out, HB2.out⟩
        case measure => simp [intOf]; omega
    · have HE : Hid (R = runes s.data.toList) := Lib.hid (by
        have h := hR.out
        rw [drop_all (by omega), runes_nil, List.append_nil] at h
        exact h)
      have HO := Lib.hid hown
      have HB := Lib.hid hb
      clear hR hown hb
      go_wp2
      go_ret2
      have hE := HE.out
      refine ⟨_, by rw [show vals s.data.toList = allok R by rw [hE]; rfl]; rfl, ?_, HB.out⟩
      rw [← hE]
      exact HO.out
end Go.Proofs.Ytdmbgjpidlllcaa.UtRunes

namespace Go.Proofs.Ytdmbgjpidlllcaa.RxRunes
open Go Go.RowKit Words RxMem RxText RxParse

theorem runesC : RunesC := fun s w hs => (UtRunes.runes_any s w (by omega)).mono fun e w' ⟨v, h1, h2, h3⟩ => ⟨v, h1, by
  have e1 : (runesOf s.data.toList).map RxMem.R32 = (UtSpec.runes s.data.toList).map UtRunes.R32 := by unfold runesOf; rw [List.map_map]; rfl
  rw [e1]
  unfold runesOf
  rw [List.length_map]
  exact h2, h3⟩
end Go.Proofs.Ytdmbgjpidlllcaa.RxRunes

