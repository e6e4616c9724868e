/- Plain words for the chapter on filters: the hash, the places, the filter, and what is asked of it. No conditions. -/
import Derived.Test.YteaafkadjglnhaaLess
import Derived.Laws.BitsAllLaws
namespace Go.Proofs.Yteaafkadjglnhaa.BlSpec
open Go Go.RowKit Words Less

/-- One step of the hash; the hash. -/
def hstep (h x : Nat) : Nat := ((h ^^^ x) * 1099511628211) % 18446744073709551616
def fnv (s : List UInt8) : Nat := s.foldl (fun h x => hstep h x.toNat) 14695981039346656037
theorem hstep_lt (h x : Nat) : hstep h x < 18446744073709551616 := Nat.mod_lt _ (by omega)
theorem fnv_snoc (s : List UInt8) {k : Nat} (h : k < s.length) : fnv (s.take (k + 1)) = hstep (fnv (s.take k)) s[k].toNat := by
  unfold fnv
  rw [List.take_succ_eq_append_getElem h, List.foldl_append, List.foldl_cons, List.foldl_nil]
theorem fold_lt : ∀ (s : List UInt8) (h : Nat), h < 18446744073709551616 → s.foldl (fun h x => hstep h x.toNat) h < 18446744073709551616
  | [], _, h => h
  | _ :: s, _, _ => fold_lt s _ (hstep_lt _ _)
theorem fnv_lt (s : List UInt8) : fnv s < 18446744073709551616 := fold_lt s _ (by decide)
/-- The lower half with its lowest bit set; the k-th place among m. -/
def low (h : Nat) : Nat := if h % 4294967296 % 2 = 0 then h % 4294967296 + 1 else h % 4294967296
theorem low_lt (h : Nat) : low h < 4294967296 := by unfold low; split <;> omega
def place (s : List UInt8) (k m : Nat) : Nat := (fnv s / 4294967296 + k * low (fnv s)) % m

/-- The bit p of a filter; a filter with it set. -/
def bit (f : List UInt8) (p : Nat) : Bool := (f[p / 8]?.getD 0).toNat.testBit (p % 8)
def setB (f : List UInt8) (p : Nat) : List UInt8 := f.set (p / 8) (UInt8.ofNat ((f[p / 8]?.getD 0).toNat ||| 2 ^ (p % 8)))
theorem setB_len (f : List UInt8) (p : Nat) : (setB f p).length = f.length := by simp [setB]
theorem bit_set {f : List UInt8} {p : Nat} (hp : p / 8 < f.length) (q : Nat) : bit (setB f p) q = (bit f q || decide (q = p)) := by
  have hb := (f[p / 8]?.getD 0).toNat_lt
  have h2 : (2 : Nat) ^ (p % 8) < 2 ^ 8 := Nat.pow_lt_pow_right (by omega) (by omega)
  have h3 : (f[p / 8]?.getD 0).toNat ||| 2 ^ (p % 8) < 2 ^ 8 := Nat.or_lt_two_pow (by simpa using hb) h2
  unfold bit setB
  by_cases e : q / 8 = p / 8
  · rw [e, List.getElem?_set_self hp, Option.getD_some, UInt8.toNat_ofNat_of_lt' h3, Nat.testBit_or, Nat.testBit_two_pow]
    congr 1
    rw [decide_eq_decide]
    omega
  · rw [List.getElem?_set_ne (fun h => e h.symm)]
    have : q ≠ p := fun h => e (by rw [h])
    simp [this]
theorem setB_ext {f g : List UInt8} (hl : f.length = g.length) (h : ∀ q, bit f q = bit g q) : f = g := by
  refine List.ext_getElem hl fun i h1 h2 => UInt8.toNat.inj (Nat.eq_of_testBit_eq fun j => ?_)
  by_cases hj : j < 8
  · have := h (8 * i + j)
    unfold bit at this
    rw [show (8 * i + j) / 8 = i by omega, show (8 * i + j) % 8 = j by omega, List.getElem?_eq_getElem h1, List.getElem?_eq_getElem h2] at this
    exact this
  · rw [Nat.testBit_lt_two_pow, Nat.testBit_lt_two_pow]
    · exact Nat.lt_of_lt_of_le g[i].toNat_lt (Nat.pow_le_pow_right (by omega) (by omega : 8 ≤ j))
    · exact Nat.lt_of_lt_of_le f[i].toNat_lt (Nat.pow_le_pow_right (by omega) (by omega : 8 ≤ j))

/-- The bits of one text's first k places. -/
def setK (s : List UInt8) : Nat → List UInt8 → List UInt8
  | 0, f => f
  | k + 1, f => setB (setK s k f) (place s k (8 * f.length))
theorem setK_len (s : List UInt8) : ∀ (k : Nat) (f : List UInt8), (setK s k f).length = f.length
  | 0, _ => rfl
  | k + 1, f => by rw [setK, setB_len, setK_len s k]
theorem bit_setK (s : List UInt8) : ∀ (k : Nat) {f : List UInt8} (_ : 0 < f.length) (q : Nat), bit (setK s k f) q = (bit f q || decide (∃ j, j < k ∧ q = place s j (8 * f.length)))
  | 0, f, _, q => by simp [setK]
  | k + 1, f, hf, q => by
    have hm : place s k (8 * f.length) < 8 * f.length := Nat.mod_lt _ (by omega)
    rw [setK, bit_set (by rw [setK_len]; omega), bit_setK s k hf, Bool.or_assoc]
    congr 1
    rw [← Bool.decide_or, decide_eq_decide]
    constructor
    · rintro (⟨j, h1, h2⟩ | h)
      · exact ⟨j, by omega, h2⟩
      · exact ⟨k, by omega, h⟩
    · rintro ⟨j, h1, h2⟩
      by_cases e : j = k
      · subst e; exact .inr h2
      · exact .inl ⟨j, by omega, h2⟩
/-- The bits of all texts. -/
def setAll (ws : List (List UInt8)) (f : List UInt8) : List UInt8 := ws.foldl (fun f s => setK s 3 f) f
theorem setAll_len : ∀ (ws : List (List UInt8)) (f : List UInt8), (setAll ws f).length = f.length
  | [], _ => rfl
  | s :: ws, f => by rw [setAll, List.foldl_cons]; exact (setAll_len ws _).trans (setK_len s 3 f)
theorem setAll_snoc (ws : List (List UInt8)) {k : Nat} (h : k < ws.length) (f : List UInt8) : setAll (ws.take (k + 1)) f = setK ws[k] 3 (setAll (ws.take k) f) := by
  rw [List.take_succ_eq_append_getElem h, setAll, List.foldl_append]
  rfl
theorem bit_setAll : ∀ (ws : List (List UInt8)) {f : List UInt8} (_ : 0 < f.length) (q : Nat), bit (setAll ws f) q = true ↔ bit f q = true ∨ ∃ s ∈ ws, ∃ j, j < 3 ∧ q = place s j (8 * f.length)
  | [], f, _, q => by simp [setAll]
  | s :: ws, f, hf, q => by
    have hl := setK_len s 3 f
    have h := bit_setAll ws (f := setK s 3 f) (by omega) q
    rw [hl, bit_setK s 3 hf] at h
    rw [setAll, List.foldl_cons]
    refine h.trans ?_
    simp only [Bool.or_eq_true, decide_eq_true_eq, List.mem_cons, exists_eq_or_imp]
    rw [or_assoc]
/-- How many eights of bytes; the filter. -/
def size (n : Nat) : Nat := (10 * n + 63) / 64
def make (ws : List (List UInt8)) : List UInt8 := setAll ws (List.replicate (8 * size (once ws).length) 0)
theorem make_len (ws : List (List UInt8)) : (make ws).length = 8 * size (once ws).length := by rw [make, setAll_len, List.length_replicate]
theorem bit_zero (n q : Nat) : bit (List.replicate n 0) q = false := by
  unfold bit
  rw [List.getElem?_replicate]
  split <;> simp
theorem once_pos {ws : List (List UInt8)} {s : List UInt8} (h : s ∈ ws) : 0 < (once ws).length := List.length_pos_of_mem (mem_once.2 h)
theorem bit_make {ws : List (List UInt8)} (h : 0 < (make ws).length) (q : Nat) : bit (make ws) q = true ↔ ∃ s ∈ ws, ∃ j, j < 3 ∧ q = place s j (8 * (make ws).length) := by
  have hl := make_len ws
  have h1 := bit_setAll ws (f := List.replicate (8 * size (once ws).length) 0) (by rw [List.length_replicate]; omega) q
  rw [bit_zero, List.length_replicate] at h1
  rw [hl]
  refine Iff.trans h1 ?_
  simp
theorem make_pos {ws : List (List UInt8)} {s : List UInt8} (h : s ∈ ws) : 0 < (make ws).length := by
  have := once_pos h
  rw [make_len, size]
  omega
theorem make_nil : make [] = [] := rfl
/-- A filter depends only on which texts there are. -/
theorem make_ext {a b : List (List UInt8)} (h : ∀ z, z ∈ a ↔ z ∈ b) : make a = make b := by
  have hl : (make a).length = (make b).length := by rw [make_len, make_len, once_ext h]
  by_cases h0 : 0 < (make a).length
  · refine setB_ext hl fun q => ?_
    rw [Bool.eq_iff_iff, bit_make h0, bit_make (hl ▸ h0), hl]
    simp only [h]
  · rw [List.length_eq_zero_iff.1 (show (make a).length = 0 by omega), List.length_eq_zero_iff.1 (show (make b).length = 0 by omega)]

/-- What is asked of a filter: the first k places; all three. -/
def hasK (f : List UInt8) (s : List UInt8) : Nat → Bool
  | 0 => true
  | k + 1 => hasK f s k && bit f (place s k (8 * f.length))
def has (f : List UInt8) (s : List UInt8) : Bool := decide (0 < f.length) && hasK f s 3
theorem hasK_iff (f s : List UInt8) : ∀ k, hasK f s k = true ↔ ∀ j, j < k → bit f (place s j (8 * f.length)) = true
  | 0 => by simp [hasK]
  | k + 1 => by
    rw [hasK, Bool.and_eq_true, hasK_iff f s k]
    constructor
    · rintro ⟨h1, h2⟩ j hj
      by_cases e : j = k
      · subst e; exact h2
      · exact h1 j (by omega)
    · exact fun h => ⟨fun j hj => h j (by omega), h k (by omega)⟩
theorem has_iff (f s : List UInt8) : has f s = true ↔ 0 < f.length ∧ ∀ j, j < 3 → bit f (place s j (8 * f.length)) = true := by
  rw [has, Bool.and_eq_true, decide_eq_true_eq, hasK_iff]
theorem has_nil (s : List UInt8) : has [] s = false := rfl
theorem has_make {ws : List (List UInt8)} {s : List UInt8} (h : s ∈ ws) : has (make ws) s = true :=
  (has_iff _ _).2 ⟨make_pos h, fun j hj => (bit_make (make_pos h) _).2 ⟨s, h, j, hj, rfl⟩⟩
/-- A filter with more bits set finds no less. -/
theorem has_more {f g : List UInt8} (hl : g.length = f.length) (h : ∀ q, bit f q = true → bit g q = true) {s : List UInt8} (hs : has f s = true) : has g s = true := by
  rw [has_iff] at hs ⊢
  rw [hl]
  exact ⟨hs.1, fun j hj => h _ (hs.2 j hj)⟩
end Go.Proofs.Yteaafkadjglnhaa.BlSpec
