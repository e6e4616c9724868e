/- Plain: what a file's bytes hold, read place by place; how many payloads and bytes a log's files have together; a number's digits. Of no program. No conditions. -/
import Derived.Test.YtapbjmbakpopcaaDoorWlTots
import Derived.Lib.ItoaNum
namespace Go.Proofs.YtapbjmbakpopcaaDoor.WpPlain
open Go DkSpec WlSpec WlName WlHeld WlLog WlLaw Plain Reading

/-! ### A place among the bytes -/
section
variable {l : List UInt8} {t : Nat}
theorem get_shift (h : t ≤ l.length) : getE l (t : Int) = getE (l.drop t) 0 ∧ getN l (t : Int) = getN (l.drop t) 0 ∧ (getE l (t : Int) = 0 → getTo l (t : Int) = (t : Int) + getTo (l.drop t) 0) := by
  have h1 : ¬ ((t : Int) < 0 ∨ (l.length : Int) < (t : Int)) := by omega
  have h2 : ¬ ((0 : Int) < 0 ∨ ((l.drop t).length : Int) < 0) := by omega
  have e : ((t : Int)).toNat = t := by simp
  unfold getE getN getTo
  rw [if_neg h1, if_neg h1, if_neg h1, if_neg h2, if_neg h2, if_neg h2, e, show ((0 : Int)).toNat = 0 from rfl, List.drop_zero]
  refine ⟨rfl, rfl, fun h3 => ?_⟩
  have h4 : (dec 0 0 (l.drop t)).2.2 = 0 := by omega
  rw [if_pos h4, if_pos h4]
  omega
theorem pay_shift (a n : Nat) : pay l (t + a) n = pay (l.drop t) a n := by unfold pay; rw [List.drop_drop]
theorem rd_shift (h : t ≤ l.length) : rdE l (t : Int) = rdE (l.drop t) 0 ∧ rdP l (t : Int) = rdP (l.drop t) 0 ∧ (rdE l (t : Int) = 0 → rdT l (t : Int) = (t : Int) + rdT (l.drop t) 0 ∧ (t : Int) < rdT l (t : Int) ∧ rdT l (t : Int) ≤ (l.length : Int)) := by
  obtain ⟨h1, h2, h3⟩ := get_shift h
  by_cases he : getE l (t : Int) = 0
  · have he0 : getE (l.drop t) 0 = 0 := h1 ▸ he
    obtain ⟨n, f, hn, hf, hfl, _⟩ := get_ok he0
    have h3' := h3 he
    rw [hf] at h3'
    rw [hn] at h2
    have hf' : getTo l (t : Int) = ((t + f : Nat) : Int) := by omega
    rw [List.length_drop] at hfl
    by_cases hl : 65536 < n
    · obtain ⟨a1, a2, a3⟩ := rd_long he h2 hl
      obtain ⟨b1, b2, b3⟩ := rd_long he0 hn hl
      exact ⟨a1.trans b1.symm, a2.trans b2.symm, fun h0 => by rw [a1] at h0; cases h0⟩
    · by_cases hs : l.length < t + f + n + 4
      · obtain ⟨a1, a2, a3⟩ := rd_short he h2 hf' hl hs
        obtain ⟨b1, b2, b3⟩ := rd_short he0 hn hf hl (by rw [List.length_drop]; omega)
        exact ⟨a1.trans b1.symm, a2.trans b2.symm, fun h0 => by rw [a1] at h0; cases h0⟩
      · have hs' : ¬ (l.drop t).length < f + n + 4 := by rw [List.length_drop]; omega
        by_cases hq : pay l (t + f + n) 4 = RefSum.four (Crc.sum (pay l (t + f) n))
        · obtain ⟨a1, a2, a3⟩ := rd_good he h2 hf' hl hs hq
          obtain ⟨b1, b2, b3⟩ := rd_good he0 hn hf hl hs' (by rw [← pay_shift, ← pay_shift, ← Nat.add_assoc]; exact hq)
          refine ⟨a1.trans b1.symm, ?_, fun _ => ⟨by rw [a3, b3]; omega, by rw [a3]; omega, by rw [a3]; omega⟩⟩
          rw [a2, b2, pay_shift]
        · obtain ⟨a1, a2, a3⟩ := rd_sum he h2 hf' hl hs hq
          obtain ⟨b1, b2, b3⟩ := rd_sum he0 hn hf hl hs' (by rw [← pay_shift, ← pay_shift, ← Nat.add_assoc]; exact hq)
          exact ⟨a1.trans b1.symm, a2.trans b2.symm, fun h0 => by rw [a1] at h0; cases h0⟩
  · have he0 : getE (l.drop t) 0 ≠ 0 := h1 ▸ he
    obtain ⟨a1, a2, a3⟩ := rd_err he
    obtain ⟨b1, b2, b3⟩ := rd_err he0
    refine ⟨by rw [a1, b1, h1], a2.trans b2.symm, fun h0 => absurd (a1.symm.trans h0) he⟩
end
/-- From place t on as far as the payloads P. -/
def At (l : List UInt8) (t : Nat) (P : List (List UInt8)) : Prop := t ≤ l.length ∧ P.length ≤ t ∧ ∃ k, l.length ≤ t + k ∧ held l = P ++ heldF k (l.drop t)
theorem at_start (l : List UInt8) : At l 0 [] := ⟨Nat.zero_le _, Nat.le_refl _, l.length, by omega, by simp [held]⟩
theorem at_end {l : List UInt8} {t : Nat} {P : List (List UInt8)} (h : At l t P) (he : rdE l (t : Int) ≠ 0) : held l = P := by
  obtain ⟨h1, _, k, _, h3⟩ := h
  rw [h3, heldF_bad (by rw [← (rd_shift h1).1]; exact he), List.append_nil]
theorem at_next {l : List UInt8} {t : Nat} {P : List (List UInt8)} (h : At l t P) (he : rdE l (t : Int) = 0) : ∃ u : Nat, rdT l (t : Int) = (u : Int) ∧ t < u ∧ u ≤ l.length ∧ At l u (P ++ [rdP l (t : Int)]) := by
  obtain ⟨h1, h2, k, hk, h3⟩ := h
  obtain ⟨s1, s2, s3⟩ := rd_shift h1
  obtain ⟨s4, s5, s6⟩ := s3 he
  obtain ⟨u, hu⟩ : ∃ u : Nat, rdT l (t : Int) = (u : Int) := ⟨(rdT l (t : Int)).toNat, by omega⟩
  refine ⟨u, hu, by omega, by omega, by omega, by simp; omega, k - 1, by omega, ?_⟩
  obtain ⟨k', rfl⟩ : ∃ k', k = k' + 1 := ⟨k - 1, by omega⟩
  rw [h3, heldF, if_pos (by rw [← s1]; exact he), ← s2, List.drop_drop, show t + (rdT (l.drop t) 0).toNat = u by omega]
  simp
theorem held_len (l : List UInt8) : (held l).length ≤ l.length := by
  have key : ∀ (k : Nat) (l : List UInt8), (heldF k l).length ≤ k := fun k => by
    induction k with
    | zero => intro l; simp [heldF]
    | succ k ih =>
      intro l
      rw [heldF]
      split
      · have := ih (l.drop (rdT l 0).toNat)
        simp only [List.length_cons]
        omega
      · simp
  exact key _ _

/-! ### All files together -/
def lenOf (o : Option DFile) : Nat := match o with | some f => f.data.length | none => 0
theorem sum_le : ∀ (fs : List DFile) (ns : List (List UInt8)), ns.Nodup → (ns.map fun n => lenOf (filed n fs)).sum ≤ (fs.map fun f => f.data.length).sum
  | [], ns, h => by
    have : (ns.map fun n => lenOf (filed n [])) = ns.map fun _ => 0 := List.map_congr_left fun n _ => rfl
    rw [this]
    clear this h
    induction ns with
    | nil => simp
    | cons a r ih => simpa using ih
  | f :: r, ns, h => by
    have ih := sum_le r ns h
    have key : ∀ ns : List (List UInt8), ns.Nodup → (ns.map fun n => lenOf (filed n (f :: r))).sum ≤ (if f.name ∈ ns then f.data.length else 0) + (ns.map fun n => lenOf (filed n r)).sum := fun ns hn => by
      induction ns with
      | nil => simp
      | cons a q ihq =>
        rw [List.nodup_cons] at hn
        have h1 := ihq hn.2
        simp only [List.map_cons, List.sum_cons, List.mem_cons]
        rw [look_cons]
        by_cases e : f.name = a
        · have hq : f.name ∉ q := by rw [e]; exact hn.1
          rw [if_neg hq] at h1
          rw [if_pos e, if_pos (Or.inl e)]
          have e2 : lenOf (some f) = f.data.length := rfl
          omega
        · rw [if_neg e]
          by_cases hq : f.name ∈ q
          · rw [if_pos hq] at h1
            rw [if_pos (Or.inr hq)]
            omega
          · rw [if_neg hq] at h1
            rw [if_neg (fun h => h.elim e hq)]
            omega
    have h1 := key ns h
    simp only [List.map_cons, List.sum_cons]
    split at h1 <;> omega
/-- How many bytes the files from first on have, m of them. -/
def upTo (d : DSt) (first m : Nat) : Nat := ((List.range m).map fun i => lenOf (filed (name (first + i)) d.files)).sum
theorem upTo_le (d : DSt) (first m : Nat) : upTo d first m ≤ tot d := by
  have h := sum_le d.files ((List.range m).map fun i => name (first + i)) (by
    refine List.Pairwise.map _ (R := fun a b => a ≠ b) (fun a b hab e => hab (by have := name_inj e; omega)) List.nodup_range)
  rw [List.map_map] at h
  exact h
theorem upTo_next (d : DSt) (first m : Nat) : upTo d first (m + 1) = upTo d first m + lenOf (filed (name (first + m)) d.files) := by
  unfold upTo
  rw [List.range_succ, List.map_append, List.sum_append]
  simp
theorem read_len {d : DSt} {n : Nat} (hg : DkSpec.Good d) (hn : n ≤ most) (h0 : (DkSpec.read (name n) d).1 = 0) : (DkSpec.read (name n) d).2.length = lenOf (filed (name n) d.files) := by
  cases ho : d.off with
  | true =>
    have hr : refused (name n) (name n) d = 23 := by unfold refused; simp [name_ok hn, ho]
    unfold DkSpec.read at h0
    rw [hr, if_pos (by decide)] at h0
    cases h0
  | false =>
    rw [read_look hg (name_ok hn) ho] at h0 ⊢
    cases hf : filed (name n) d.files with
    | none => rw [hf] at h0; cases h0
    | some f => rfl
theorem file_le {d : DSt} {n : Nat} (hg : DkSpec.Good d) (hn : n ≤ most) : (DkSpec.read (name n) d).2.length ≤ tot d := by
  by_cases h0 : (DkSpec.read (name n) d).1 = 0
  · rw [read_len hg hn h0]
    have h := upTo_le d n 1
    have h1 := upTo_next d n 0
    rw [h1] at h
    have : upTo d n 0 = 0 := rfl
    rw [Nat.add_zero] at h
    omega
  · have : (DkSpec.read (name n) d).2 = [] := by
      unfold DkSpec.read at h0 ⊢
      split
      · rfl
      · rename_i hr
        rw [if_neg hr] at h0
        split at h0
        · rename_i hp; rw [if_pos hp]
        · exact absurd rfl h0
    rw [this]
    exact Nat.zero_le _
theorem data_le {d : DSt} {f : DFile} (h : f ∈ d.files) : f.data.length ≤ tot d := by
  unfold tot
  generalize d.files = l at h
  induction l with
  | nil => cases h
  | cons g r ih =>
    rw [List.map_cons, List.sum_cons]
    rcases List.mem_cons.1 h with rfl | h
    · omega
    · have := ih h
      omega

/-! ### Digits -/
theorem digs_dec (n : Nat) : Lib.decDigits n = digs n := by
  induction n using Nat.strongRecOn with
  | _ n ih =>
    by_cases h : n < 10
    · rw [digs_small h, Lib.decDigits, dif_pos h]
    · rw [digs_step h, Lib.decDigits, dif_neg h, ih (n / 10) (by omega)]
end Go.Proofs.YtapbjmbakpopcaaDoor.WpPlain
