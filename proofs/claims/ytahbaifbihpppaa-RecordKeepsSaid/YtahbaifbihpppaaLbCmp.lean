/- The contracts of the document's Compare and Same of labels: memory is only read. Conditions: none but that the lists lie in memory. -/
import Derived.Test.YtahbaifbihpppaaLbRef
import Derived.Test.YtahbaifbihpppaaUtOwn
import Derived.Deep.Draws
namespace Go.Proofs.Ytahbaifbihpppaa.LbCmp
open Go Go.RowKit Words AppN Less LbSpec LbText LbMem LbRef UtOwn

/-- '==' of two labels. -/
theorem run_eqL (w : World) (x y : Lab) : (binOp .eql 46 (.agg #[.string ⟨x.1.toArray⟩, .string ⟨x.2.toArray⟩]) (.agg #[.string ⟨y.1.toArray⟩, .string ⟨y.2.toArray⟩])).run Try.prog w = .ok (.bool (x == y)) w := by
  have hq : (x == y) = (x.1 == y.1 && x.2 == y.2) := rfl
  rw [run_eql_struct, run_equalIn_agg w 9999 46 _ _ (by kernel_rfl) (by kernel_rfl), hq]
  simp only [Program.fieldsOf, Try.underlying46, Op.eqFields, part, Sem.run_bind, Sem.run_ite]
  simp [go_sem, Try.underlying9, Op.eqFields, part]
  cases h1 : x.1 == y.1 <;> cases h2 : x.2 == y.2 <;> simp_all
theorem below_drewN {w0 w : World} {B : Nat} (h : Below B w0 w) (k : Nat) : Below B w0 (w.drewN k) := ⟨h.os, h.tape, h.output, h.size, h.block⟩
def CRel (w : World) (a b : List Lab) (v : Value) (wr : World) : Prop := ∃ k : Nat, k ≤ a.length ∧ k ≤ b.length ∧ v = .int .i64 (k : Int) ∧ Hid (cmp a b = cmp (a.drop k) (b.drop k)) ∧ Hid (Below w.heap.size w wr)

set_option maxHeartbeats 3200000 in
set_option maxRecDepth 100000 in
theorem rcmp_any (w : World) (a b : List Lab) (A B : Option Addr) (m n c d : Nat) (ha : Lb w A m c a) (hb : Lb w B n d b) :
    Calls Try.prog 53 #[.slice A m c, .slice B n d] w fun e w' => e = .returned (.int .i64 (cmp a b)) ∧ Below w.heap.size w w' := by
  obtain ⟨rfl, hc, hm, hra⟩ := ha
  obtain ⟨rfl, hd, hn, hrb⟩ := hb
  unfold maxLen at hm hn
  have HRA := Lib.hid hra
  have HRB := Lib.hid hrb
  clear hra hrb
  obtain ⟨r, hrr⟩ : ∃ r, cmp a b = r := ⟨_, rfl⟩
  have HRR := Lib.hid hrr
  rw [hrr]
  clear hrr
  go_enter Try.func53, Try.ntmps53
  go_wp2
  go_loopw [5] (fun v wr => CRel w a b v wr) (fun v _ => a.length - (intOf v).toNat)
  case atStart => exact ⟨0, Nat.zero_le _, Nat.zero_le _, rfl, Lib.hid (by simp), Lib.hid (Below.refl _ _)⟩
  case round =>
    obtain ⟨k, hka, hkb, rfl, HC, HB⟩ := hrel
    by_cases hlt : k < a.length ∧ k < b.length
    · obtain ⟨hla, hlb⟩ := hlt
      obtain ⟨g1, o1, rfl, hg1, hc1⟩ := HRA.out (by rw [flat_len]; omega)
      obtain ⟨g2, o2, rfl, hg2, hc2⟩ := HRB.out (by rw [flat_len]; omega)
      obtain ⟨p0, p1⟩ := cellsL hc1 hla
      obtain ⟨q0, q1⟩ := cellsL hc2 hlb
      have k0 := (HB.out.cell (p := ⟨g1, o1 + k * 2, none⟩) hg1).trans p0
      have k1 := (HB.out.cell (p := ⟨g1, o1 + k * 2 + 1, none⟩) hg1).trans p1
      have l0 := (HB.out.cell (p := ⟨g2, o2 + k * 2, none⟩) hg2).trans q0
      have l1 := (HB.out.cell (p := ⟨g2, o2 + k * 2 + 1, none⟩) hg2).trans q1
      have HD : Hid (r = if a[k] = b[k] then cmp (a.drop (k + 1)) (b.drop (k + 1)) else if ltL a[k] b[k] = true then -1 else 1) := Lib.hid (by
        have h := HC.out
        rw [HRR.out, List.drop_eq_getElem_cons hla, List.drop_eq_getElem_cons hlb, cmp] at h
        exact h)
      have HL := Lib.hid (show cmp a b = r from HRR.out)
      have he := fun w => run_eqL w a[k] b[k]
      clear hc1 hc2 p0 p1 q0 q1 HC
      generalize a[k] = x at *
      generalize b[k] = y at *
      obtain ⟨x1, x2⟩ := x
      obtain ⟨y1, y2⟩ := y
      simp only at k0 k1 l0 l1 he
      by_cases e : ((x1, x2) : Lab) = (y1, y2)
      · rw [if_pos e] at HD
        have e' : (((x1, x2) : Lab) == (y1, y2)) = true := by simpa using e
        rw [e'] at he
        clear e e'
        go_wp2
        go_quiet (fail)
        go_wp2
        go_roundw
        case rel => exact ⟨k + 1, by omega, by omega, by go_num, Lib.hid (by rw [HL.out]; exact HD.out), Lib.hid (below_drewN HB.out _)⟩
        case measure => simp [intOf]; omega
      · rw [if_neg e] at HD
        have e' : (((x1, x2) : Lab) == (y1, y2)) = false := beq_eq_false_iff_ne.2 e
        rw [e'] at he
        clear e e'
        unfold ltL at HD
        obtain ⟨s1, h1⟩ : ∃ s, less x1 y1 = s := ⟨_, rfl⟩
        obtain ⟨s2, h2⟩ : ∃ s, (x1 == y1) = s := ⟨_, rfl⟩
        obtain ⟨s3, h3⟩ : ∃ s, less x2 y2 = s := ⟨_, rfl⟩
        simp only [h1, h2, h3] at HD
        rw [← less_is] at h1 h3
        cases s1 with
        | true =>
          go_wp2
          go_quiet (fail)
          go_wp2
          go_quiet (fail)
          go_wp2
          go_ret
          exact ⟨ret_int HD.out.symm, below_drewN (below_drewN HB.out _) _⟩
        | false =>
          cases s2 with
          | false =>
            go_wp2
            go_quiet (fail)
            go_wp2
            go_quiet (fail)
            go_wp2
            go_ret
            exact ⟨ret_int HD.out.symm, below_drewN (below_drewN HB.out _) _⟩
          | true =>
            cases s3 with
            | true =>
              go_wp2
              go_quiet (fail)
              go_wp2
              go_quiet (fail)
              go_wp2
              go_ret
              exact ⟨ret_int HD.out.symm, below_drewN (below_drewN HB.out _) _⟩
            | false =>
              go_wp2
              go_quiet (fail)
              go_wp2
              go_quiet (fail)
              go_wp2
              go_ret
              exact ⟨ret_int HD.out.symm, below_drewN (below_drewN HB.out _) _⟩
    · have HE : Hid (r = if a.length < b.length then -1 else if b.length < a.length then 1 else 0) := Lib.hid (by
        have h := HC.out
        rw [HRR.out] at h
        rw [h]
        rcases Nat.lt_trichotomy a.length b.length with h1 | h1 | h1
        · have : k = a.length := by omega
          subst this
          rw [List.drop_length, if_pos h1, List.drop_eq_getElem_cons h1, cmp]
        · have h2 : k = a.length := by omega
          rw [List.drop_eq_nil_of_le (by omega), List.drop_eq_nil_of_le (by omega), if_neg (by omega), if_neg (by omega), cmp]
        · have : k = b.length := by omega
          subst this
          rw [List.drop_length, if_neg (by omega), if_pos h1, List.drop_eq_getElem_cons h1, cmp])
      clear HC
      rcases Nat.lt_trichotomy a.length b.length with h1 | h1 | h1
      · have hk : k = a.length := by omega
        rw [if_pos h1] at HE
        clear hlt
        subst hk
        go_wp2
        go_ret
        exact ⟨ret_int HE.out.symm, HB.out⟩
      · have hk : k = a.length := by omega
        rw [if_neg (by omega), if_neg (by omega)] at HE
        clear hlt
        subst hk
        go_wp2
        all_goals first
          | (exfalso; omega)
          | (go_ret; exact ⟨ret_int HE.out.symm, HB.out⟩)
      · have hk : k = b.length := by omega
        rw [if_neg (by omega), if_pos h1] at HE
        clear hlt
        subst hk
        go_wp2
        all_goals first
          | (exfalso; omega)
          | (go_ret; exact ⟨ret_int HE.out.symm, HB.out⟩)

set_option maxHeartbeats 800000 in
theorem rsame_any (w : World) (a b : List Lab) (A B : Option Addr) (m n c d : Nat) (ha : Lb w A m c a) (hb : Lb w B n d b) :
    Calls Try.prog 35 #[.slice A m c, .slice B n d] w fun e w' => e = .returned (.bool (a == b)) ∧ Below w.heap.size w w' := by
  have HC := Lib.hid (rcmp_any w a b A B m n c d ha hb)
  have hq : (cmp a b == 0) = (a == b) := by
    rw [Bool.eq_iff_iff, beq_iff_eq, beq_iff_eq]
    exact cmp_eq
  rw [← hq]
  generalize cmp a b = r at *
  clear ha hb hq
  go_enter Try.func35, Try.ntmps35
  go_wp2_with fail
  refine HC.out.mono ?_
  rintro e w1 ⟨rfl, hb1⟩
  have HB1 := Lib.hid hb1
  clear hb1
  go_wp2
  all_goals
    go_ret
    refine ⟨ret_bool ?_, HB1.out⟩
  all_goals simp_all
end Go.Proofs.Ytahbaifbihpppaa.LbCmp
