/- The contract of the document's One: the rune that begins at a place, and how many bytes it has. Conditions: the place lies in the text; a length that the model has. -/
import Derived.Test.YtkgmcabamhpjhaaGreatUts
import Derived.IntWalk
namespace Go.Proofs.YtkgmcabamhpjhaaGreat.UtOne
open Go Go.RowKit UtSpec UtShelf UtSmall UtRange

def val (l : List UInt8) (c0 : Nat) : Nat → Nat
  | 0 => c0
  | 1 => c0
  | k + 2 => val l c0 (k + 1) * 64 + at' l (k + 1) % 64
theorem val_next (l : List UInt8) (c0 : Nat) {i : Nat} (h : 1 ≤ i) : val l c0 (i + 1) = val l c0 i * 64 + at' l i % 64 := by
  obtain ⟨k, rfl⟩ : ∃ k, i = k + 1 := ⟨i - 1, by omega⟩
  rfl
theorem val_le (l : List UInt8) {c0 : Nat} (h : c0 ≤ 31) {i : Nat} (h1 : 1 ≤ i) (hi : i ≤ 4) : val l c0 i ≤ 8388607 := by
  have e1 : val l c0 2 = val l c0 1 * 64 + at' l 1 % 64 := val_next l c0 (by omega)
  have e2 : val l c0 3 = val l c0 2 * 64 + at' l 2 % 64 := val_next l c0 (by omega)
  have e3 : val l c0 4 = val l c0 3 * 64 + at' l 3 % 64 := val_next l c0 (by omega)
  have e0 : val l c0 1 = c0 := rfl
  have : i = 1 ∨ i = 2 ∨ i = 3 ∨ i = 4 := by omega
  rcases this with rfl | rfl | rfl | rfl <;> omega
theorem ret_two {a b c d : Int} (h : a = c) (h' : b = d) : Ending.returned (.tuple #[.int .i32 a, .int .i64 b]) = .returned (.tuple #[.int .i32 c, .int .i64 d]) := by rw [h, h']
def OneIs (l : List UInt8) (w : World) (e : Ending) (w' : World) : Prop := e = .returned (.tuple #[.int .i32 ((dec l).1 : Nat), .int .i64 ((dec l).2 : Nat)]) ∧ w = w'
theorem one_is {l : List UInt8} {w : World} {a b : Nat} {x y : Int} (h : dec l = (a, b)) (hx : x = (a : Int)) (hy : y = (b : Int)) : OneIs l w (.returned (.tuple #[.int .i32 x, .int .i64 y])) w := by
  refine ⟨?_, rfl⟩
  rw [h, hx, hy]
theorem at_byte {s : ByteArray} {p k : Nat} (h : p + k < s.size) : (s[p + k]'h).toNat = at' (s.data.toList.drop p) k := by
  have h' : k < (s.data.toList.drop p).length := by
    have e2 : s.data.size = s.size := rfl
    rw [List.length_drop]; simp; omega
  rw [at_get h', List.getElem_drop]
  rfl
theorem cont_eq {s : ByteArray} {p k : Nat} : cont (s.data.toList.drop p) k = (decide (p + k < s.size) && at' (s.data.toList.drop p) k / 64 == 2) := by
  have e2 : s.data.size = s.size := rfl
  unfold cont
  congr 1
  rw [decide_eq_decide, List.length_drop]
  simp
  omega
theorem fin_bad {l : List UInt8} {V low n : Nat} (h : dec l = if V ≥ low && okr V then (V, n) else (0xFFFD, 1)) (hb : V < low ∨ V > 1114111 ∨ (55296 ≤ V ∧ V ≤ 57343)) : dec l = (0xFFFD, 1) := by
  rw [h, if_neg]
  unfold okr
  simp
  omega
theorem fin_ok {l : List UInt8} {V low n : Nat} (h : dec l = if V ≥ low && okr V then (V, n) else (0xFFFD, 1)) (h0 : low ≤ V) (h1 : V ≤ 1114111) (h2 : ¬ (55296 ≤ V ∧ V ≤ 57343)) : dec l = (V, n) := by
  rw [h, if_pos]
  unfold okr
  simp
  omega
/-- A byte that is no later one stops it. -/
theorem stop1 {l : List UInt8} {c : Nat} (hc : at' l 0 = c) (h0 : 192 ≤ c) (h1 : c < 224) {j : Nat} (hj : 1 ≤ j) (hj' : j ≤ 1) (h : cont l j = false) : dec l = (0xFFFD, 1) := by
  obtain rfl : j = 1 := by omega
  have q1 : (c / 16 == 14) = false := by simp; omega
  have q2 : (c / 8 == 30) = false := by simp; omega
  unfold dec
  rw [hc, h, q1, q2, if_neg (by omega)]
  simp
theorem stop2 {l : List UInt8} {c : Nat} (hc : at' l 0 = c) (h0 : 224 ≤ c) (h1 : c < 240) {j : Nat} (hj : 1 ≤ j) (hj' : j ≤ 2) (h : cont l j = false) : dec l = (0xFFFD, 1) := by
  have q1 : (c / 32 == 6) = false := by simp; omega
  have q2 : (c / 8 == 30) = false := by simp; omega
  unfold dec
  rw [hc, q1, q2, if_neg (by omega)]
  have : j = 1 ∨ j = 2 := by omega
  rcases this with rfl | rfl <;> simp [h]
theorem stop3 {l : List UInt8} {c : Nat} (hc : at' l 0 = c) (h0 : 240 ≤ c) (h1 : c < 248) {j : Nat} (hj : 1 ≤ j) (hj' : j ≤ 3) (h : cont l j = false) : dec l = (0xFFFD, 1) := by
  have q1 : (c / 32 == 6) = false := by simp; omega
  have q2 : (c / 16 == 14) = false := by simp; omega
  unfold dec
  rw [hc, q1, q2, if_neg (by omega)]
  have : j = 1 ∨ j = 2 ∨ j = 3 := by omega
  rcases this with rfl | rfl | rfl <;> simp [h]
theorem stop0 {l : List UInt8} {c : Nat} (hc : at' l 0 = c) (h0 : 128 ≤ c) (h : c < 192 ∨ 248 ≤ c) (h1 : c < 256) : dec l = (0xFFFD, 1) := by
  have q1 : (c / 32 == 6) = false := by simp; omega
  have q2 : (c / 16 == 14) = false := by simp; omega
  have q3 : (c / 8 == 30) = false := by simp; omega
  unfold dec
  rw [hc, q1, q2, q3, if_neg (by omega)]
  simp
theorem go1 {l : List UInt8} {c : Nat} (hc : at' l 0 = c) (h0 : 192 ≤ c) (h1 : c < 224) (h : ∀ j, 1 ≤ j → j < 2 → cont l j = true) : dec l = if val l (c - 192) 2 ≥ 128 && okr (val l (c - 192) 2) then (val l (c - 192) 2, 2) else (0xFFFD, 1) := by
  have q1 : (c / 32 == 6) = true := by simp; omega
  have e : val l (c - 192) 2 = (c % 32) * 64 + at' l 1 % 64 := by
    rw [val_next l _ (by omega)]
    show (c - 192) * 64 + _ = _
    omega
  have ok : okr (val l (c - 192) 2) = true := sc_okr (.inl (by rw [e]; omega))
  unfold dec
  rw [hc, q1, h 1 (by omega) (by omega), if_neg (by omega), ok, e]
  simp
theorem go2 {l : List UInt8} {c : Nat} (hc : at' l 0 = c) (h0 : 224 ≤ c) (h1 : c < 240) (h : ∀ j, 1 ≤ j → j < 3 → cont l j = true) : dec l = if val l (c - 224) 3 ≥ 2048 && okr (val l (c - 224) 3) then (val l (c - 224) 3, 3) else (0xFFFD, 1) := by
  have q1 : (c / 32 == 6) = false := by simp; omega
  have q2 : (c / 16 == 14) = true := by simp; omega
  have e : val l (c - 224) 3 = (c % 16) * 4096 + (at' l 1 % 64) * 64 + at' l 2 % 64 := by
    rw [val_next l _ (by omega), val_next l _ (by omega)]
    show ((c - 224) * 64 + _) * 64 + _ = _
    omega
  unfold dec
  rw [hc, q1, q2, h 1 (by omega) (by omega), h 2 (by omega) (by omega), if_neg (by omega), e]
  simp
theorem go3 {l : List UInt8} {c : Nat} (hc : at' l 0 = c) (h0 : 240 ≤ c) (h1 : c < 248) (h : ∀ j, 1 ≤ j → j < 4 → cont l j = true) : dec l = if val l (c - 240) 4 ≥ 65536 && okr (val l (c - 240) 4) then (val l (c - 240) 4, 4) else (0xFFFD, 1) := by
  have q1 : (c / 32 == 6) = false := by simp; omega
  have q2 : (c / 16 == 14) = false := by simp; omega
  have q3 : (c / 8 == 30) = true := by simp; omega
  have e : val l (c - 240) 4 = (c % 8) * 262144 + (at' l 1 % 64) * 4096 + (at' l 2 % 64) * 64 + at' l 3 % 64 := by
    rw [val_next l _ (by omega), val_next l _ (by omega), val_next l _ (by omega)]
    show (((c - 240) * 64 + _) * 64 + _) * 64 + _ = _
    omega
  unfold dec
  rw [hc, q1, q2, q3, h 1 (by omega) (by omega), h 2 (by omega) (by omega), h 3 (by omega) (by omega), if_neg (by omega), e]
  simp

def ORel (l : List UInt8) (c0 n : Nat) (c k : Value) : Prop :=
  ∃ i : Nat, 1 ≤ i ∧ i ≤ n + 1 ∧ k = .int .i64 (i : Int) ∧ c = .int .i64 (val l c0 i : Nat) ∧ Hid (∀ j, 1 ≤ j → j < i → cont l j = true)

set_option maxHeartbeats 1600000 in
set_option maxRecDepth 100000 in
theorem one_1 (s : ByteArray) (p : Nat) (hp : p < s.size) (hs : s.size ≤ 9223372036854775000) (w : World) (h0 : 192 ≤ (s[p]'hp).toNat) (h1 : (s[p]'hp).toNat < 224) :
    Calls Tryz.prog 91 #[.string s, .int .i64 (p : Int)] w (OneIs (s.data.toList.drop p) w) := by
  obtain ⟨c, hc⟩ : ∃ c, (s[p]'hp).toNat = c := ⟨_, rfl⟩
  rw [hc] at h0 h1
  obtain ⟨l, hl⟩ : ∃ l, s.data.toList.drop p = l := ⟨_, rfl⟩
  have HA : Hid (at' l 0 = c) := Lib.hid (by rw [← hc, ← hl]; exact (at_byte (p := p) (k := 0) (by simpa using hp)).symm)
  have HC : Hid (∀ k, cont l k = (decide (p + k < s.size) && at' l k / 64 == 2)) := Lib.hid (fun k => by rw [← hl]; exact cont_eq)
  have HB : Hid (∀ k (h : p + k < s.size), (s[p + k]'h).toNat = at' l k) := Lib.hid (fun k h => by rw [← hl]; exact at_byte h)
  have hS : ∀ j : Nat, 1 ≤ j → j ≤ 1 → cont l j = false → dec l = (0xFFFD, 1) := fun j a b d => stop1 HA.out h0 h1 a b d
  have HS : Hid (∀ j : Nat, 1 ≤ j → j ≤ 1 → cont l j = false → dec l = (0xFFFD, 1)) := Lib.hid hS
  have HG : Hid ((∀ j, 1 ≤ j → j < 2 → cont l j = true) → dec l = if val l (c - 192) 2 ≥ 128 && okr (val l (c - 192) 2) then (val l (c - 192) 2, 2) else (0xFFFD, 1)) := Lib.hid (go1 HA.out h0 h1)
  rw [hl]
  obtain ⟨c0, hc0⟩ : ∃ c0, c - 192 = c0 := ⟨_, rfl⟩
  rw [hc0] at HG
  have hcc : c = c0 + 192 := by omega
  have hc31 : c0 ≤ 31 := by omega
  have HM : Hid ((c : Int) - 192 = (c0 : Int)) := Lib.hid (by omega)
  have hb1 : decide ((c : Int) < 128) = false := by simp; omega
  have hb2 : decide ((192 : Int) ≤ c) = true := by simp; omega
  have hb3 : decide ((c : Int) < 224) = true := by simp; omega
  clear hl hS hc0 hcc
  go_enter Tryz.func91, Tryz.ntmps91
  go_wp2
  rw [HM.out]
  go_loop [6, 9] (fun cv kv => ORel l c0 1 cv kv) (fun _ kv => 2 - (intOf kv).toNat)
  case atStart => exact ⟨1, Nat.le_refl _, by omega, rfl, rfl, Lib.hid (fun j h h' => by omega)⟩
  case round =>
    obtain ⟨i, hi1, hi2, rfl, rfl, hco⟩ := hrel
    have hvl := val_le l hc31 hi1 (by omega)
    by_cases hlt : i ≤ 1
    · by_cases hlen : p + i < s.size
      · have hb := HB.out i hlen
        have hbl : at' l i < 256 := (l.getD i 0).toNat_lt
        have hnx := val_next l c0 hi1
        obtain ⟨b, hbb⟩ : ∃ b, at' l i = b := ⟨_, rfl⟩
        rw [hbb] at hb hnx hbl
        by_cases hct : b / 64 = 2
        · have hq : (((b : Int) / 64) != 2) = false := by simp; omega
          have hq0 : (((b : Int) / 64) == 2) = true := by simp; omega
          have HN : Hid ((val l c0 i : Int) * 64 + (b : Int) % 64 = ((val l c0 (i + 1) : Nat) : Int)) := Lib.hid (by rw [hnx]; omega)
          have HO : Hid (∀ j, 1 ≤ j → j < i + 1 → cont l j = true) := Lib.hid (fun j h h' => by
            by_cases hji : j = i
            · subst hji
              rw [HC.out, hbb]
              simp [hlen, hct]
            · exact hco.out j h (by omega))
          clear hnx hbb hct hco
          go_wp2
          rw [HN.out]
          go_round
          case rel => exact ⟨i + 1, by omega, by omega, by go_num, rfl, HO⟩
          case measure => simp [intOf]; omega
        · have hq : (((b : Int) / 64) != 2) = true := by simp; omega
          have hq0 : (((b : Int) / 64) == 2) = false := by simp; omega
          have HD : Hid (dec l = (0xFFFD, 1)) := Lib.hid (HS.out i hi1 hlt (by rw [HC.out, hbb]; simp [hct]))
          clear hnx hbb hct hco
          go_wp2
          go_ret2
          exact one_is HD.out rfl rfl
      · have HD : Hid (dec l = (0xFFFD, 1)) := Lib.hid (HS.out i hi1 hlt (by rw [HC.out]; simp [hlen]))
        clear hco
        go_wp2
        go_ret2
        exact one_is HD.out rfl rfl
    · obtain rfl : i = 2 := by omega
      have HD := Lib.hid (HG.out hco.out)
      obtain ⟨V, hV⟩ : ∃ V, val l c0 2 = V := ⟨_, rfl⟩
      rw [hV] at HD hvl ⊢
      clear hco hV hlt
      go_wp2
      all_goals
        go_ret2
        first
          | exact one_is (fin_bad HD.out (by omega)) rfl rfl
          | exact one_is (fin_ok HD.out (by omega) (by omega) (by omega)) rfl rfl

set_option maxHeartbeats 1600000 in
set_option maxRecDepth 100000 in
theorem one_2 (s : ByteArray) (p : Nat) (hp : p < s.size) (hs : s.size ≤ 9223372036854775000) (w : World) (h0 : 224 ≤ (s[p]'hp).toNat) (h1 : (s[p]'hp).toNat < 240) :
    Calls Tryz.prog 91 #[.string s, .int .i64 (p : Int)] w (OneIs (s.data.toList.drop p) w) := by
  obtain ⟨c, hc⟩ : ∃ c, (s[p]'hp).toNat = c := ⟨_, rfl⟩
  rw [hc] at h0 h1
  obtain ⟨l, hl⟩ : ∃ l, s.data.toList.drop p = l := ⟨_, rfl⟩
  have HA : Hid (at' l 0 = c) := Lib.hid (by rw [← hc, ← hl]; exact (at_byte (p := p) (k := 0) (by simpa using hp)).symm)
  have HC : Hid (∀ k, cont l k = (decide (p + k < s.size) && at' l k / 64 == 2)) := Lib.hid (fun k => by rw [← hl]; exact cont_eq)
  have HB : Hid (∀ k (h : p + k < s.size), (s[p + k]'h).toNat = at' l k) := Lib.hid (fun k h => by rw [← hl]; exact at_byte h)
  have hS : ∀ j : Nat, 1 ≤ j → j ≤ 2 → cont l j = false → dec l = (0xFFFD, 1) := fun j a b d => stop2 HA.out h0 h1 a b d
  have HS : Hid (∀ j : Nat, 1 ≤ j → j ≤ 2 → cont l j = false → dec l = (0xFFFD, 1)) := Lib.hid hS
  have HG : Hid ((∀ j, 1 ≤ j → j < 3 → cont l j = true) → dec l = if val l (c - 224) 3 ≥ 2048 && okr (val l (c - 224) 3) then (val l (c - 224) 3, 3) else (0xFFFD, 1)) := Lib.hid (go2 HA.out h0 h1)
  rw [hl]
  obtain ⟨c0, hc0⟩ : ∃ c0, c - 224 = c0 := ⟨_, rfl⟩
  rw [hc0] at HG
  have hcc : c = c0 + 224 := by omega
  have hc31 : c0 ≤ 31 := by omega
  have HM : Hid ((c : Int) - 224 = (c0 : Int)) := Lib.hid (by omega)
  have hb1 : decide ((c : Int) < 128) = false := by simp; omega
  have hb2 : decide ((192 : Int) ≤ c) = true := by simp; omega
  have hb3 : decide ((c : Int) < 224) = false := by simp; omega
  have hb4 : decide ((224 : Int) ≤ c) = true := by simp; omega
  have hb5 : decide ((c : Int) < 240) = true := by simp; omega
  clear hl hS hc0 hcc
  go_enter Tryz.func91, Tryz.ntmps91
  go_wp2
  rw [HM.out]
  go_loop [6, 9] (fun cv kv => ORel l c0 2 cv kv) (fun _ kv => 3 - (intOf kv).toNat)
  case atStart => exact ⟨1, Nat.le_refl _, by omega, rfl, rfl, Lib.hid (fun j h h' => by omega)⟩
  case round =>
    obtain ⟨i, hi1, hi2, rfl, rfl, hco⟩ := hrel
    have hvl := val_le l hc31 hi1 (by omega)
    by_cases hlt : i ≤ 2
    · by_cases hlen : p + i < s.size
      · have hb := HB.out i hlen
        have hbl : at' l i < 256 := (l.getD i 0).toNat_lt
        have hnx := val_next l c0 hi1
        obtain ⟨b, hbb⟩ : ∃ b, at' l i = b := ⟨_, rfl⟩
        rw [hbb] at hb hnx hbl
        by_cases hct : b / 64 = 2
        · have hq : (((b : Int) / 64) != 2) = false := by simp; omega
          have hq0 : (((b : Int) / 64) == 2) = true := by simp; omega
          have HN : Hid ((val l c0 i : Int) * 64 + (b : Int) % 64 = ((val l c0 (i + 1) : Nat) : Int)) := Lib.hid (by rw [hnx]; omega)
          have HO : Hid (∀ j, 1 ≤ j → j < i + 1 → cont l j = true) := Lib.hid (fun j h h' => by
            by_cases hji : j = i
            · subst hji
              rw [HC.out, hbb]
              simp [hlen, hct]
            · exact hco.out j h (by omega))
          clear hnx hbb hct hco
          go_wp2
          rw [HN.out]
          go_round
          case rel => exact ⟨i + 1, by omega, by omega, by go_num, rfl, HO⟩
          case measure => simp [intOf]; omega
        · have hq : (((b : Int) / 64) != 2) = true := by simp; omega
          have hq0 : (((b : Int) / 64) == 2) = false := by simp; omega
          have HD : Hid (dec l = (0xFFFD, 1)) := Lib.hid (HS.out i hi1 hlt (by rw [HC.out, hbb]; simp [hct]))
          clear hnx hbb hct hco
          go_wp2
          go_ret2
          exact one_is HD.out rfl rfl
      · have HD : Hid (dec l = (0xFFFD, 1)) := Lib.hid (HS.out i hi1 hlt (by rw [HC.out]; simp [hlen]))
        clear hco
        go_wp2
        go_ret2
        exact one_is HD.out rfl rfl
    · obtain rfl : i = 3 := by omega
      have HD := Lib.hid (HG.out hco.out)
      obtain ⟨V, hV⟩ : ∃ V, val l c0 3 = V := ⟨_, rfl⟩
      rw [hV] at HD hvl ⊢
      clear hco hV hlt
      go_wp2
      all_goals
        go_ret2
        first
          | exact one_is (fin_bad HD.out (by omega)) rfl rfl
          | exact one_is (fin_ok HD.out (by omega) (by omega) (by omega)) rfl rfl

set_option maxHeartbeats 1600000 in
set_option maxRecDepth 100000 in
theorem one_3 (s : ByteArray) (p : Nat) (hp : p < s.size) (hs : s.size ≤ 9223372036854775000) (w : World) (h0 : 240 ≤ (s[p]'hp).toNat) (h1 : (s[p]'hp).toNat < 248) :
    Calls Tryz.prog 91 #[.string s, .int .i64 (p : Int)] w (OneIs (s.data.toList.drop p) w) := by
  obtain ⟨c, hc⟩ : ∃ c, (s[p]'hp).toNat = c := ⟨_, rfl⟩
  rw [hc] at h0 h1
  obtain ⟨l, hl⟩ : ∃ l, s.data.toList.drop p = l := ⟨_, rfl⟩
  have HA : Hid (at' l 0 = c) := Lib.hid (by rw [← hc, ← hl]; exact (at_byte (p := p) (k := 0) (by simpa using hp)).symm)
  have HC : Hid (∀ k, cont l k = (decide (p + k < s.size) && at' l k / 64 == 2)) := Lib.hid (fun k => by rw [← hl]; exact cont_eq)
  have HB : Hid (∀ k (h : p + k < s.size), (s[p + k]'h).toNat = at' l k) := Lib.hid (fun k h => by rw [← hl]; exact at_byte h)
  have hS : ∀ j : Nat, 1 ≤ j → j ≤ 3 → cont l j = false → dec l = (0xFFFD, 1) := fun j a b d => stop3 HA.out h0 h1 a b d
  have HS : Hid (∀ j : Nat, 1 ≤ j → j ≤ 3 → cont l j = false → dec l = (0xFFFD, 1)) := Lib.hid hS
  have HG : Hid ((∀ j, 1 ≤ j → j < 4 → cont l j = true) → dec l = if val l (c - 240) 4 ≥ 65536 && okr (val l (c - 240) 4) then (val l (c - 240) 4, 4) else (0xFFFD, 1)) := Lib.hid (go3 HA.out h0 h1)
  rw [hl]
  obtain ⟨c0, hc0⟩ : ∃ c0, c - 240 = c0 := ⟨_, rfl⟩
  rw [hc0] at HG
  have hcc : c = c0 + 240 := by omega
  have hc31 : c0 ≤ 31 := by omega
  have HM : Hid ((c : Int) - 240 = (c0 : Int)) := Lib.hid (by omega)
  have hb1 : decide ((c : Int) < 128) = false := by simp; omega
  have hb2 : decide ((192 : Int) ≤ c) = true := by simp; omega
  have hb3 : decide ((c : Int) < 224) = false := by simp; omega
  have hb4 : decide ((224 : Int) ≤ c) = true := by simp; omega
  have hb5 : decide ((c : Int) < 240) = false := by simp; omega
  have hb6 : decide ((240 : Int) ≤ c) = true := by simp; omega
  have hb7 : decide ((c : Int) < 248) = true := by simp; omega
  clear hl hS hc0 hcc
  go_enter Tryz.func91, Tryz.ntmps91
  go_wp2
  rw [HM.out]
  go_loop [6, 9] (fun cv kv => ORel l c0 3 cv kv) (fun _ kv => 4 - (intOf kv).toNat)
  case atStart => exact ⟨1, Nat.le_refl _, by omega, rfl, rfl, Lib.hid (fun j h h' => by omega)⟩
  case round =>
    obtain ⟨i, hi1, hi2, rfl, rfl, hco⟩ := hrel
    have hvl := val_le l hc31 hi1 (by omega)
    by_cases hlt : i ≤ 3
    · by_cases hlen : p + i < s.size
      · have hb := HB.out i hlen
        have hbl : at' l i < 256 := (l.getD i 0).toNat_lt
        have hnx := val_next l c0 hi1
        obtain ⟨b, hbb⟩ : ∃ b, at' l i = b := ⟨_, rfl⟩
        rw [hbb] at hb hnx hbl
        by_cases hct : b / 64 = 2
        · have hq : (((b : Int) / 64) != 2) = false := by simp; omega
          have hq0 : (((b : Int) / 64) == 2) = true := by simp; omega
          have HN : Hid ((val l c0 i : Int) * 64 + (b : Int) % 64 = ((val l c0 (i + 1) : Nat) : Int)) := Lib.hid (by rw [hnx]; omega)
          have HO : Hid (∀ j, 1 ≤ j → j < i + 1 → cont l j = true) := Lib.hid (fun j h h' => by
            by_cases hji : j = i
            · subst hji
              rw [HC.out, hbb]
              simp [hlen, hct]
            · exact hco.out j h (by omega))
          clear hnx hbb hct hco
          go_wp2
          rw [HN.out]
          go_round
          case rel => exact ⟨i + 1, by omega, by omega, by go_num, rfl, HO⟩
          case measure => simp [intOf]; omega
        · have hq : (((b : Int) / 64) != 2) = true := by simp; omega
          have hq0 : (((b : Int) / 64) == 2) = false := by simp; omega
          have HD : Hid (dec l = (0xFFFD, 1)) := Lib.hid (HS.out i hi1 hlt (by rw [HC.out, hbb]; simp [hct]))
          clear hnx hbb hct hco
          go_wp2
          go_ret2
          exact one_is HD.out rfl rfl
      · have HD : Hid (dec l = (0xFFFD, 1)) := Lib.hid (HS.out i hi1 hlt (by rw [HC.out]; simp [hlen]))
        clear hco
        go_wp2
        go_ret2
        exact one_is HD.out rfl rfl
    · obtain rfl : i = 4 := by omega
      have HD := Lib.hid (HG.out hco.out)
      obtain ⟨V, hV⟩ : ∃ V, val l c0 4 = V := ⟨_, rfl⟩
      rw [hV] at HD hvl ⊢
      clear hco hV hlt
      go_wp2
      all_goals
        go_ret2
        first
          | exact one_is (fin_bad HD.out (by omega)) rfl rfl
          | exact one_is (fin_ok HD.out (by omega) (by omega) (by omega)) rfl rfl

set_option maxHeartbeats 800000 in
set_option maxRecDepth 100000 in
theorem one_0 (s : ByteArray) (p : Nat) (hp : p < s.size) (w : World) (h0 : 128 ≤ (s[p]'hp).toNat) (h1 : (s[p]'hp).toNat < 192 ∨ 248 ≤ (s[p]'hp).toNat) :
    Calls Tryz.prog 91 #[.string s, .int .i64 (p : Int)] w (OneIs (s.data.toList.drop p) w) := by
  have hlt := (s[p]'hp).toNat_lt
  obtain ⟨c, hc⟩ : ∃ c, (s[p]'hp).toNat = c := ⟨_, rfl⟩
  rw [hc] at h0 h1 hlt
  have HD : Hid (dec (s.data.toList.drop p) = (0xFFFD, 1)) := Lib.hid (stop0 (by rw [← hc]; exact (at_byte (p := p) (k := 0) (by simpa using hp)).symm) h0 h1 hlt)
  generalize s.data.toList.drop p = l at HD
  rcases h1 with h1 | h1
  all_goals
    go_enter Tryz.func91, Tryz.ntmps91
    go_wp2
    go_ret2
    exact one_is HD.out rfl rfl
set_option maxHeartbeats 800000 in
set_option maxRecDepth 100000 in
theorem one_s (s : ByteArray) (p : Nat) (hp : p < s.size) (w : World) (h0 : (s[p]'hp).toNat < 128) :
    Calls Tryz.prog 91 #[.string s, .int .i64 (p : Int)] w (OneIs (s.data.toList.drop p) w) := by
  obtain ⟨c, hc⟩ : ∃ c, (s[p]'hp).toNat = c := ⟨_, rfl⟩
  rw [hc] at h0
  have HD : Hid (dec (s.data.toList.drop p) = (c, 1)) := Lib.hid (by
    have h := at_byte (s := s) (p := p) (k := 0) (by simpa using hp)
    unfold dec
    rw [← h]
    show (if (s[p]'hp).toNat < 128 then ((s[p]'hp).toNat, 1) else _) = _
    rw [hc, if_pos h0])
  generalize s.data.toList.drop p = l at HD
  go_enter Tryz.func91, Tryz.ntmps91
  go_wp2
  go_ret2
  exact one_is HD.out rfl rfl
/-- One. -/
theorem one_any (s : ByteArray) (p : Nat) (hp : p < s.size) (hs : s.size ≤ 9223372036854775000) (w : World) :
    Calls Tryz.prog 91 #[.string s, .int .i64 (p : Int)] w (OneIs (s.data.toList.drop p) w) := by
  by_cases a : (s[p]'hp).toNat < 128
  · exact one_s s p hp w a
  by_cases b : (s[p]'hp).toNat < 192
  · exact one_0 s p hp w (by omega) (.inl b)
  by_cases c : (s[p]'hp).toNat < 224
  · exact one_1 s p hp hs w (by omega) c
  by_cases d : (s[p]'hp).toNat < 240
  · exact one_2 s p hp hs w (by omega) d
  by_cases e : (s[p]'hp).toNat < 248
  · exact one_3 s p hp hs w (by omega) e
  · exact one_0 s p hp w (by omega) (.inr (by omega))
end Go.Proofs.YtkgmcabamhpjhaaGreat.UtOne
