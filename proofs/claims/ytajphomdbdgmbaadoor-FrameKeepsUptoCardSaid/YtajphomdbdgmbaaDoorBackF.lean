/- Plain facts on frames: a frame that stands between other bytes is read as its payload; each shorter beginning is too short; with one byte behind its length changed it is not taken. No conditions but that the payload has at most 65536 bytes. -/
import Derived.Test.YtajphomdbdgmbaaDoorRefRead
namespace Go.Proofs.YtajphomdbdgmbaaDoor.BackF
open Go Go.RowKit Words Plain Crc RefSum Get Framed Reading

theorem get_frm (x l r : List UInt8) (h : l.length ≤ 65536) : getE (x ++ (Lib.uvarint l.length ++ r)) x.length = 0 ∧ getN (x ++ (Lib.uvarint l.length ++ r)) x.length = l.length ∧ getTo (x ++ (Lib.uvarint l.length ++ r)) x.length = ((x.length + (Lib.uvarint l.length).length : Nat) : Int) := by
  have hd := dec_uvarint 9 0 0 l.length r rfl (by omega) (by simp; omega) (by omega)
  have f := fin (l := x ++ (Lib.uvarint l.length ++ r)) (p := x.length) (n := l.length) (c := (Lib.uvarint l.length).length) (e := 0) (by simp) (by
    rw [List.drop_left' rfl, hd]
    simp)
  refine ⟨f.2.2, f.1, ?_⟩
  rw [f.2.1]
  simp
theorem pay_mid (x l r : List UInt8) : pay (x ++ (l ++ r)) x.length l.length = l := by
  unfold pay
  rw [List.drop_left' rfl, List.take_left' rfl]

/-- A frame between other bytes. -/
theorem rd_frm (x l y : List UInt8) (h : l.length ≤ 65536) : rdE (x ++ (frm l ++ y)) x.length = 0 ∧ rdP (x ++ (frm l ++ y)) x.length = l ∧ rdT (x ++ (frm l ++ y)) x.length = ((x.length + (frm l).length : Nat) : Int) := by
  have e0 : x ++ (frm l ++ y) = x ++ (Lib.uvarint l.length ++ (l ++ (four (sum l) ++ y))) := by simp [frm]
  have hlen : (x ++ (frm l ++ y)).length = x.length + (Lib.uvarint l.length).length + l.length + 4 + y.length := by simp [frm_length]; omega
  obtain ⟨g1, g2, g3⟩ := get_frm x l (l ++ (four (sum l) ++ y)) h
  rw [← e0] at g1 g2 g3
  have p1 : pay (x ++ (frm l ++ y)) (x.length + (Lib.uvarint l.length).length) l.length = l := by
    have := pay_mid (x ++ Lib.uvarint l.length) l (four (sum l) ++ y)
    rw [List.length_append] at this
    rw [e0, ← List.append_assoc]
    exact this
  have p2 : pay (x ++ (frm l ++ y)) (x.length + (Lib.uvarint l.length).length + l.length) 4 = four (sum l) := by
    have := pay_mid (x ++ Lib.uvarint l.length ++ l) (four (sum l)) y
    rw [List.length_append, List.length_append, four_length] at this
    rw [e0]
    rw [List.append_assoc, List.append_assoc] at this
    exact this
  obtain ⟨h1, h2, h3⟩ := rd_good g1 g2 g3 (by omega) (by omega) (by rw [p1, p2])
  rw [p1] at h2
  refine ⟨h1, h2, ?_⟩
  rw [h3, frm_length]
  omega

theorem rd_frm0 (l : List UInt8) (h : l.length ≤ 65536) : rdE (frm l) 0 = 0 ∧ rdP (frm l) 0 = l ∧ rdT (frm l) 0 = (((frm l).length : Nat) : Int) := by
  have := rd_frm [] l [] h
  simpa using this

/-- Each shorter beginning is too short. -/
theorem rd_short_frm (l : List UInt8) (h : l.length ≤ 65536) (k : Nat) (hk : k < (frm l).length) : rdE ((frm l).take k) 0 = 5 ∧ rdP ((frm l).take k) 0 = [] := by
  by_cases hu : k < (Lib.uvarint l.length).length
  · have e0 : (frm l).take k = (Lib.uvarint l.length).take k := by
      unfold frm
      rw [List.take_append_of_le_length (by omega)]
    have hd := dec_short 0 0 l.length k (by simp; omega) (by omega) hu
    have f := fin (l := (Lib.uvarint l.length).take k) (p := 0) (n := 0) (c := 0) (e := 5) (by omega) (by simpa using hd)
    have hE : getE ((frm l).take k) 0 = 5 := by rw [e0]; exact f.2.2
    obtain ⟨h1, h2, _⟩ := rd_err (l := (frm l).take k) (at_ := 0) (by rw [hE]; omega)
    exact ⟨h1.trans hE, h2⟩
  · have e0 : (frm l).take k = [] ++ (Lib.uvarint l.length ++ (l ++ four (sum l)).take (k - (Lib.uvarint l.length).length)) := by
      unfold frm
      rw [List.take_append, List.take_of_length_le (by omega), List.nil_append]
    obtain ⟨g1, g2, g3⟩ := get_frm [] l ((l ++ four (sum l)).take (k - (Lib.uvarint l.length).length)) h
    rw [← e0] at g1 g2 g3
    obtain ⟨h1, h2, _⟩ := rd_short (l := (frm l).take k) (at_ := ([] : List UInt8).length) g1 g2 g3 (by omega) (by
      rw [frm_length] at hk
      rw [List.length_take, frm_length]
      simp
      omega)
    exact ⟨h1, h2⟩

theorem four_inj {s t : Nat} (hs : s < 2 ^ 32) (ht : t < 2 ^ 32) (h : four s = four t) : s = t := by
  have h1 := congrArg (List.map B8) h
  rw [four_map s hs, four_map t ht] at h1
  simp only [List.cons.injEq, Value.int.injEq, true_and, and_true] at h1
  omega
theorem sum_set (l : List UInt8) (j : Nat) (hj : j < l.length) (y : UInt8) (hy : y ≠ l[j]) : sum (l.set j y) ≠ sum l := by
  intro e
  rw [List.set_eq_take_append_cons_drop, if_pos hj] at e
  have e2 : l = l.take j ++ l[j] :: l.drop (j + 1) := by rw [← List.drop_eq_getElem_cons hj, List.take_append_drop]
  conv at e => rhs; rw [e2]
  exact hy (sum_diff _ _ _ _ e)

/-- With one byte behind its length changed a frame is not taken. -/
theorem rd_turned (l : List UInt8) (h : l.length ≤ 65536) (j : Nat) (hj : j < l.length + 4) (y : UInt8) (hy : ∀ hi : (Lib.uvarint l.length).length + j < (frm l).length, y ≠ (frm l)[(Lib.uvarint l.length).length + j]) :
    rdE ((frm l).set ((Lib.uvarint l.length).length + j) y) 0 = 7 ∧ rdP ((frm l).set ((Lib.uvarint l.length).length + j) y) 0 = [] := by
  have e0 : (frm l).set ((Lib.uvarint l.length).length + j) y = Lib.uvarint l.length ++ (l ++ four (sum l)).set j y := by
    unfold frm
    rw [List.set_append_right _ _ (by omega)]
    congr 2
    omega
  have hq : y ≠ (l ++ four (sum l))[j]'(by simp [four_length]; omega) := by
    have := hy (by rw [frm_length]; omega)
    simp only [frm] at this
    rw [List.getElem_append_right (by omega)] at this
    simpa using this
  have key : ∀ (l' q' : List UInt8), (l ++ four (sum l)).set j y = l' ++ q' → l'.length = l.length → q'.length = 4 → q' ≠ four (sum l') → rdE (Lib.uvarint l.length ++ (l ++ four (sum l)).set j y) 0 = 7 ∧ rdP (Lib.uvarint l.length ++ (l ++ four (sum l)).set j y) 0 = [] := by
    intro l' q' e1 h1 h2 h3
    rw [e1]
    have g := get_frm [] l' q' (by omega)
    rw [h1] at g
    have e2 : (l' ++ q' : List UInt8) = l' ++ q' := rfl
    have g' := get_frm [] l (l' ++ q') h
    simp only [List.nil_append, List.length_nil] at g'
    obtain ⟨g1, g2, g3⟩ := g'
    have p1 : pay (Lib.uvarint l.length ++ (l' ++ q')) (0 + (Lib.uvarint l.length).length) l.length = l' := by
      have := pay_mid (Lib.uvarint l.length) l' q'
      rw [h1] at this
      rw [Nat.zero_add]
      exact this
    have p2 : pay (Lib.uvarint l.length ++ (l' ++ q')) (0 + (Lib.uvarint l.length).length + l.length) 4 = q' := by
      have := pay_mid (Lib.uvarint l.length ++ l') q' []
      rw [List.append_nil, List.length_append, h1, h2, List.append_assoc] at this
      rw [Nat.zero_add]
      exact this
    obtain ⟨r1, r2, _⟩ := rd_sum (l := Lib.uvarint l.length ++ (l' ++ q')) (at_ := 0) g1 g2 g3 (by omega) (by simp [h1, h2]; omega) (by rw [p1, p2]; exact h3)
    exact ⟨r1, r2⟩
  rw [e0]
  by_cases hjl : j < l.length
  · rw [List.getElem_append_left hjl] at hq
    exact key (l.set j y) (four (sum l)) (List.set_append_left _ _ hjl) (by simp) (four_length _) (fun e => sum_set l j hjl y hq (four_inj (sum_lt _) (sum_lt _) e).symm)
  · rw [List.getElem_append_right (by omega)] at hq
    refine key l ((four (sum l)).set (j - l.length) y) (List.set_append_right _ _ (by omega)) rfl (by rw [List.length_set, four_length]) (fun e => hq ?_)
    have h4 : j - l.length < (four (sum l)).length := by rw [four_length]; omega
    have h5 : ((four (sum l)).set (j - l.length) y)[j - l.length]? = some y := List.getElem?_set_self h4
    rw [e, List.getElem?_eq_getElem h4] at h5
    exact (Option.some.inj h5).symm
end Go.Proofs.YtajphomdbdgmbaaDoor.BackF
