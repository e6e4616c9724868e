/- A pattern in parentheses with a repetition behind it. Of no program. No conditions. -/
import Derived.Test.YtdmbgjpidlllcaaRxJoins
namespace Go.Proofs.Ytdmbgjpidlllcaa.RxRepP
open RxSpec RxEq RxTree RxSuf RxText RxJoinP

/-- A repetition's text, and what it says. -/
def repT (i lo hi : Nat) : List Nat := if i = 0 then [42] else if i = 1 then [43] else if i = 2 then [63] else if i = 3 then [123, 48 + lo, 125] else [123, 48 + lo, 44, 48 + hi, 125]
def repMin (i lo : Nat) : Nat := if i = 0 then 0 else if i = 1 then 1 else if i = 2 then 0 else lo
def repMax (i lo hi : Nat) : Int := if i = 0 then -1 else if i = 1 then -1 else if i = 2 then 1 else if i = 3 then (lo : Int) else (hi : Int)
def repBad (i lo hi : Nat) : Bool := (decide (3 ≤ i) && decide (8 < lo)) || (decide (i = 4) && (decide (8 < hi) || decide (hi < lo)))
theorem digit_at (d : Nat) (t : List Nat) : digit ((48 + d) :: t) = if d ≤ 8 then some (d, t) else none := by
  rw [digit_cons]
  by_cases h : d ≤ 8
  · rw [if_pos (by omega), if_pos h]
    congr 2
    omega
  · rw [if_neg (by omega), if_neg h]
theorem rep_text (p : Pat) {i lo hi : Nat} (hi5 : i < 5) (t : List Nat) : repS p (repT i lo hi ++ t) = if repBad i lo hi then none else some (.rep p (repMin i lo) (repMax i lo hi), t) := by
  have hc : i = 0 ∨ i = 1 ∨ i = 2 ∨ i = 3 ∨ i = 4 := by omega
  rcases hc with rfl | rfl | rfl | rfl | rfl
  · simp [repT, repBad, repMin, repMax, repS, hd_cons]
  · simp [repT, repBad, repMin, repMax, repS, hd_cons]
  · simp [repT, repBad, repMin, repMax, repS, hd_cons]
  · rw [show repT 3 lo hi ++ t = 123 :: (48 + lo) :: 125 :: t from rfl, show repBad 3 lo hi = decide (8 < lo) by simp [repBad], show repMin 3 lo = lo from rfl, show repMax 3 lo hi = (lo : Int) from rfl]
    unfold repS
    rw [hd_cons, hd_cons, hd_cons, if_neg (by decide), if_neg (by decide), if_pos (by decide), List.tail_cons, digit_at]
    by_cases h : lo ≤ 8
    · rw [if_pos h]
      simp only
      rw [hd_cons, if_neg (by decide)]
      simp only
      rw [if_pos ⟨hd_cons 125 t 125 ▸ rfl, Nat.le_refl _⟩, if_neg (by simp; omega)]
      rfl
    · rw [if_neg h, if_pos (by simp; omega)]
  · rw [show repT 4 lo hi ++ t = 123 :: (48 + lo) :: 44 :: (48 + hi) :: 125 :: t from rfl, show repBad 4 lo hi = (decide (8 < lo) || (decide (8 < hi) || decide (hi < lo))) by simp [repBad], show repMin 4 lo = lo from rfl, show repMax 4 lo hi = (hi : Int) from rfl]
    unfold repS
    rw [hd_cons, hd_cons, hd_cons, if_neg (by decide), if_neg (by decide), if_pos (by decide), List.tail_cons, digit_at]
    by_cases h : lo ≤ 8
    · rw [if_pos h]
      simp only
      rw [hd_cons, if_pos (by decide), List.tail_cons, digit_at]
      by_cases h2 : hi ≤ 8
      · rw [if_pos h2]
        simp only
        by_cases h3 : lo ≤ hi
        · rw [if_pos ⟨hd_cons 125 t 125 ▸ rfl, h3⟩, if_neg (by simp; omega)]
          rfl
        · rw [if_neg (fun h4 => h3 h4.2), if_pos (by simp; omega)]
      · rw [if_neg h2, if_pos (by simp; omega)]
    · rw [if_neg h, if_pos (by simp; omega)]
theorem repT_low {i lo hi : Nat} (h1 : lo < 10) (h2 : hi < 10) : ∀ r ∈ repT i lo hi, r < 128 := by
  intro r hr
  unfold repT at hr
  repeat' split at hr
  all_goals
    simp only [List.mem_cons, List.not_mem_nil, or_false] at hr
    omega
theorem text_again {R X : List Nat} (hR : ∀ r ∈ R, UtSpec.sc r) (hX : ∀ r ∈ X, r < 128) : parseT (40 :: (UtSpec.encs R ++ 41 :: X.map UInt8.ofNat)) = if 128 < (UtSpec.encs (40 :: (R ++ 41 :: X))).length then (4, []) else parse (40 :: (R ++ 41 :: X)) := by
  have e : (40 :: (UtSpec.encs R ++ 41 :: X.map UInt8.ofNat) : List UInt8) = UtSpec.encs (40 :: (R ++ 41 :: X)) := by
    rw [UtSpec.encs_cons, UtSpec.encs_append, UtSpec.encs_cons, enc40, enc41, encs_low hX]; rfl
  rw [e, text_encs]
  intro r hr
  simp only [List.mem_cons, List.mem_append] at hr
  rcases hr with rfl | hr | rfl | hr
  · exact sc_low (by decide)
  · exact hR r hr
  · exact sc_low (by decide)
  · exact sc_low (hX r hr)
/-- A pattern in parentheses with a repetition, and with two. -/
theorem text_rep {s : List UInt8} {l : List Nd} (h : parseT s = (0, l)) {i lo hi : Nat} (hi5 : i < 5) (hlo : lo < 10) (hhi : hi < 10) {y z : Nat} {m n : List Nd}
    (h1 : parseT (40 :: (s ++ 41 :: (repT i lo hi).map UInt8.ofNat)) = (y, m)) (h2 : parseT (40 :: (s ++ 41 :: (repT i lo hi ++ [42]).map UInt8.ofNat)) = (z, n)) :
    y = 4 ∨ y = 9 ∨ y = 3 ∨ ((z = 40 ∨ z = 4) ∧ ((repBad i lo hi = true ∧ y = 40) ∨ (repBad i lo hi = false ∧ y = 0 ∧ m = l ++ [⟨5, [l.length - 1], (repMin i lo : Int), repMax i lo hi, []⟩]))) := by
  obtain ⟨R, p, k, hR, rfl, _, ha, hk, hz, rfl⟩ := text_ok h
  have hx := repT_low (i := i) hlo hhi
  rw [text_again hR hx] at h1
  rw [text_again hR (fun r hr => by
    rcases List.mem_append.1 hr with hr | hr
    · exact hx r hr
    · obtain rfl : r = 42 := by simpa using hr
      decide)] at h2
  have r1 := rep_text p (lo := lo) (hi := hi) hi5 []
  rw [List.append_nil] at r1
  have r2 := rep_text p (lo := lo) (hi := hi) hi5 [42]
  have hz4 : z = 40 ∨ z = 4 := by
    split at h2
    · cases h2; right; rfl
    have hn : altS (40 :: (R ++ 41 :: (repT i lo hi ++ [42]))) = none := by
      split at r2
      · exact alt_none ha r2
      · exact alt_again ha r2
    unfold parse at h2
    rw [hn] at h2
    cases h2
    left; rfl
  split at h1
  · cases h1; left; rfl
  cases hb : repBad i lo hi with
  | true =>
    rw [hb, if_pos rfl] at r1
    unfold parse at h1
    rw [alt_none ha r1] at h1
    cases h1
    exact .inr (.inr (.inr ⟨hz4, .inl ⟨rfl, rfl⟩⟩))
  | false =>
    rw [hb, if_neg (by decide)] at r1
    unfold parse at h1
    rw [alt_rep ha r1] at h1
    simp only at h1
    split at h1
    · cases h1; right; left; rfl
    split at h1
    · cases h1; right; right; left; rfl
    cases h1
    refine .inr (.inr (.inr ⟨hz4, .inr ⟨rfl, rfl, ?_⟩⟩))
    simp [emit]
end Go.Proofs.Ytdmbgjpidlllcaa.RxRepP
