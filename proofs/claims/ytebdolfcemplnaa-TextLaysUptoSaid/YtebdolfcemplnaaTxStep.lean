/- Plain: the program's way through a text: where its runs begin and end, by places of bytes; what is taken of them. No conditions. -/
import Derived.Test.YtebdolfcemplnaaTxSpec
import Derived.Test.YtebdolfcemplnaaTxAll
namespace Go.Proofs.Ytebdolfcemplnaa.TxStep
open Go UtSpec TxSpec TxAll

theorem rs_cons {l l' : List UInt8} {r n : Nat} (h : runes l = (r, n) :: runes l') : rs l = r :: rs l' := by unfold rs; rw [h]; rfl
theorem wd_bad : wd 0xFFFD = false := by decide +kernel
/-- A word rune's bytes. -/
theorem word_bytes {l : List UInt8} (hl : l ≠ []) {r n : Nat} (hd : dec l = (r, n)) (hw : wd r = true) : sc r ∧ l = enc r ++ l.drop n := by
  rcases dec_cases hl with h | ⟨r', t, hs, he, h⟩
  · rw [hd] at h
    obtain ⟨rfl, rfl⟩ := Prod.mk.inj h
    rw [wd_bad] at hw
    cases hw
  · rw [hd] at h
    obtain ⟨rfl, rfl⟩ := Prod.mk.inj h
    refine ⟨hs, ?_⟩
    conv => rhs; rw [he, List.drop_left]
    exact he
/-- What stands between the places f and p: the runes of a run. -/
structure Run (t : List UInt8) (f p : Nat) (cur : List Nat) : Prop where
  ne : cur ≠ []
  sc : ∀ r ∈ cur, sc r
  bytes : t.drop f = encs cur ++ t.drop p
  le : f ≤ p ∧ p ≤ t.length
  len : p = f + (encs cur).length
theorem Run.begin {t : List UInt8} {p r n : Nat} (hp : p < t.length) (hd : dec (t.drop p) = (r, n)) (hw : wd r = true) (hn : p + n ≤ t.length) : Run t p (p + n) [r] := by
  have hne : t.drop p ≠ [] := by intro e; have := congrArg List.length e; rw [List.length_drop] at this; simp at this; omega
  obtain ⟨hs, he⟩ := word_bytes hne hd hw
  rw [List.drop_drop] at he
  refine ⟨by simp, by simpa using hs, by simpa [encs] using he, ⟨by omega, hn⟩, ?_⟩
  have h1 := congrArg List.length he
  rw [List.length_append, List.length_drop, List.length_drop] at h1
  simp [encs]
  omega
theorem Run.more {t : List UInt8} {f p r n : Nat} {cur : List Nat} (h : Run t f p cur) (hp : p < t.length) (hd : dec (t.drop p) = (r, n)) (hw : wd r = true) (hn : p + n ≤ t.length) : Run t f (p + n) (cur ++ [r]) := by
  have h2 := Run.begin hp hd hw hn
  refine ⟨by simp, ?_, ?_, ⟨by have := h.le.1; omega, hn⟩, ?_⟩
  · intro x hx
    rcases List.mem_append.1 hx with hx | hx
    · exact h.sc x hx
    · exact h2.sc x hx
  · rw [h.bytes, h2.bytes, encs_append, List.append_assoc]
  · rw [encs_append, List.length_append, ← Nat.add_assoc, ← h.len]
    exact h2.len
theorem Run.part {s : ByteArray} {f p : Nat} {cur : List Nat} (h : Run s.data.toList f p cur) : s.extract f p = ⟨(encs cur).toArray⟩ := by
  apply ByteArray.ext
  rw [ByteArray.data_extract]
  apply Array.ext'
  have h1 : s.data.toList.drop f = encs cur ++ s.data.toList.drop p := h.bytes
  have h2 : p - f = (encs cur).length := by have := h.len; omega
  simp only [Array.toList_extract, List.extract_eq_take_drop, h1, h2, List.take_left]
/-- The words, so far, and those to come. At a place between two runes, out of a run, or in one (from f on). -/
def Out (b : Bool) (t : List UInt8) (T L : List (List UInt8)) (p : Nat) : Prop := L ++ sel b (runsA [] (decide (0 < p)) (rs (t.drop p))) = T
def In (b : Bool) (t : List UInt8) (T L : List (List UInt8)) (f p : Nat) (cur : List Nat) : Prop := Run t f p cur ∧ L ++ sel b (runsA cur (decide (0 < f)) (rs (t.drop p))) = T
/-- What a run adds. -/
def adds (b : Bool) (f p n : Nat) (cur : List Nat) : List (List UInt8) := if (!b || (decide (0 < f) && decide (p < n))) = true then [wof cur] else []

theorem out_out {b : Bool} {t : List UInt8} {T L : List (List UInt8)} {p r n : Nat} (h : Out b t T L p) (hr : runes (t.drop p) = (r, n) :: runes (t.drop (p + n))) (hn : 1 ≤ n) (hw : wd r = false) : Out b t T L (p + n) := by
  unfold Out at *
  rw [rs_cons hr, runsA_skip hw] at h
  rw [show decide (0 < p + n) = true by simp; omega]
  exact h
theorem out_in {b : Bool} {t : List UInt8} {T L : List (List UInt8)} {p r n : Nat} (h : Out b t T L p) (hr : runes (t.drop p) = (r, n) :: runes (t.drop (p + n))) (hd : dec (t.drop p) = (r, n)) (hp : p < t.length) (hn : p + n ≤ t.length) (hw : wd r = true) : In b t T L p (p + n) [r] := by
  refine ⟨Run.begin hp hd hw hn, ?_⟩
  unfold Out at h
  rw [rs_cons hr, runsA, if_pos hw] at h
  exact h
theorem in_in {b : Bool} {t : List UInt8} {T L : List (List UInt8)} {f p r n : Nat} {cur : List Nat} (h : In b t T L f p cur) (hr : runes (t.drop p) = (r, n) :: runes (t.drop (p + n))) (hd : dec (t.drop p) = (r, n)) (hp : p < t.length) (hn : p + n ≤ t.length) (hw : wd r = true) : In b t T L f (p + n) (cur ++ [r]) := by
  refine ⟨h.1.more hp hd hw hn, ?_⟩
  have h2 := h.2
  rw [rs_cons hr, runsA, if_pos hw] at h2
  exact h2
theorem in_out {b : Bool} {t : List UInt8} {T L : List (List UInt8)} {f p r n : Nat} {cur : List Nat} (h : In b t T L f p cur) (hr : runes (t.drop p) = (r, n) :: runes (t.drop (p + n))) (hp : p < t.length) (hn : 1 ≤ n) (hw : wd r = false) : Out b t T (L ++ adds b f p t.length cur) (p + n) := by
  have h2 := h.2
  have hw' : ¬ wd r = true := by rw [hw]; decide
  rw [rs_cons hr, runsA, if_neg hw', if_neg h.1.ne, sel_cons] at h2
  unfold Out adds
  rw [show decide (0 < p + n) = true by simp; omega, show decide (p < t.length) = true by simpa using hp, Bool.and_true, List.append_assoc]
  exact h2
theorem out_end {b : Bool} {t : List UInt8} {T L : List (List UInt8)} {p : Nat} (h : Out b t T L p) (hp : t.length ≤ p) : L = T := by
  unfold Out at h
  rw [List.drop_eq_nil_of_le hp] at h
  rw [← h]
  simp [rs, runes_nil, runsA, sel]
theorem in_end {b : Bool} {t : List UInt8} {T L : List (List UInt8)} {f p : Nat} {cur : List Nat} (h : In b t T L f p cur) (hp : p = t.length) : L ++ adds b f t.length t.length cur = T := by
  subst hp
  have h2 := h.2
  rw [List.drop_eq_nil_of_le (Nat.le_refl _), show rs [] = [] from rfl, runsA, if_neg h.1.ne, sel_cons] at h2
  rw [← h2]
  unfold adds
  simp [sel]
theorem adds_len (b : Bool) (f p n : Nat) (cur : List Nat) : (adds b f p n cur).length ≤ 1 := by unfold adds; split <;> simp
end Go.Proofs.Ytebdolfcemplnaa.TxStep
