/- The contracts of the document's Name, Find, Compare and Same of labels: memory is only read. Conditions: none but that the lists lie in memory. · The contracts of the document's Compare and Same of labels: memory is only read. Conditions: none but that the lists lie in memory. · The contracts of the document's Compare, Same and SameAll of records: memory is only read. Conditions: none but that the records lie in memory. -/
import Derived.Test.YtkgmcabamhpjhaaGreatLbSpecs
import Derived.BigQuiet
import Derived.Lib.Hide
import Derived.Outline
import Derived.WalkKit
import Derived.IntWalk
import Derived.WalkLawsBesides
import Derived.Test.YtkgmcabamhpjhaaGreatBase
import Derived.Deep.Draws
import Derived.Test.YtkgmcabamhpjhaaGreatRcSpecs
import Derived.Deep.RegionLaw
namespace Go.Proofs.YtkgmcabamhpjhaaGreat.LbRef
open Go Go.RowKit Words AppN Less LbSpec LbText LbMem

theorem ret_int {k : IntKind} {a b : Int} (h : a = b) : Ending.returned (.int k a) = .returned (.int k b) := by rw [h]
theorem ret_bool {a b : Bool} (h : a = b) : Ending.returned (.bool a) = .returned (.bool b) := by rw [h]
theorem str_list (s : ByteArray) : s = ⟨s.data.toList.toArray⟩ := by simp
theorem size_len (l : List UInt8) : (⟨l.toArray⟩ : ByteArray).size = l.length := by show l.toArray.size = _; simp

/-! ### Name -/
def okc (i : Nat) (c : UInt8) : Bool := letter c || (decide (0 < i) && digit c)
theorem okc_iff (i : Nat) (c : UInt8) : okc i c = true ↔ (97 ≤ c.toNat ∧ c.toNat ≤ 122) ∨ c.toNat = 95 ∨ (0 < i ∧ 48 ≤ c.toNat ∧ c.toNat ≤ 57) := by
  unfold okc letter digit
  simp only [Bool.or_eq_true, Bool.and_eq_true, decide_eq_true_eq]
  constructor
  · rintro ((h | h) | h)
    · exact .inl h
    · exact .inr (.inl h)
    · exact .inr (.inr h)
  · rintro (h | h | h)
    · exact .inl (.inl h)
    · exact .inl (.inr h)
    · exact .inr h
theorem name_iff (l : List UInt8) : nameOk l = true ↔ 1 ≤ l.length ∧ l.length ≤ 32 ∧ ∀ j (h : j < l.length), okc j l[j] = true := by
  cases l with
  | nil => simp [nameOk]
  | cons c t =>
    unfold nameOk
    simp only [Bool.and_eq_true, List.all_eq_true, decide_eq_true_eq, List.length_cons]
    constructor
    · rintro ⟨⟨h1, h2⟩, h3⟩
      refine ⟨by omega, by omega, fun j h => ?_⟩
      cases j with
      | zero => unfold okc; simp [h1]
      | succ j =>
        have h4 := h2 (t[j]'(by omega)) (List.getElem_mem _)
        unfold okc
        simpa using h4
    · rintro ⟨_, h2, h3⟩
      refine ⟨⟨?_, fun x hx => ?_⟩, by omega⟩
      · have := h3 0 (by omega)
        unfold okc at this
        simpa using this
      · obtain ⟨j, hj, rfl⟩ := List.mem_iff_getElem.1 hx
        have := h3 (j + 1) (by omega)
        unfold okc at this
        simpa using this
def NRel (n : List UInt8) (v : Value) : Prop := ∃ i : Nat, v = .int .i64 (i : Int) ∧ i ≤ n.length ∧ Hid (∀ j (h : j < n.length), j < i → okc j n[j] = true)

set_option maxHeartbeats 3200000 in
set_option maxRecDepth 100000 in
theorem rname_any (N : ByteArray) (w : World) : Calls Tryz.prog 89 #[.string N] w fun e w' => e = .returned (.bool (nameOk N.data.toList)) ∧ w = w' := by
  have e2 : N.data.toList.length = N.size := by simp
  obtain ⟨r, hr⟩ : ∃ r, nameOk N.data.toList = r := ⟨_, rfl⟩
  have HR := Lib.hid hr
  have E2 := Lib.hid e2
  rw [hr]
  clear hr
  by_cases hlen : 1 ≤ N.size ∧ N.size ≤ 32
  · obtain ⟨h1, h2⟩ := hlen
    clear e2
    go_enter Tryz.func89, Tryz.ntmps89
    go_wp2
    go_loop [3] (fun v => NRel N.data.toList v) (fun v => N.size - (intOf v).toNat)
    case atStart => exact ⟨0, rfl, Nat.zero_le _, Lib.hid (fun j h h' => by omega)⟩
    case round =>
      obtain ⟨i, rfl, hi, HA⟩ := hrel
      rw [E2.out] at hi
      by_cases hlt : i < N.size
      · obtain ⟨c, hc⟩ : ∃ c, (N[i]'hlt).toNat = c := ⟨_, rfl⟩
        have hok : okc i (N.data.toList[i]'(by rw [E2.out]; exact hlt)) = true ↔ (97 ≤ c ∧ c ≤ 122) ∨ c = 95 ∨ (0 < i ∧ 48 ≤ c ∧ c ≤ 57) := by
          rw [okc_iff, ← hc]
          rfl
        by_cases hg : (97 ≤ c ∧ c ≤ 122) ∨ c = 95 ∨ (0 < i ∧ 48 ≤ c ∧ c ≤ 57)
        · have HA2 : Hid (∀ j (h : j < N.data.toList.length), j < i + 1 → okc j N.data.toList[j] = true) := Lib.hid (fun j h hj => by
            by_cases e : j = i
            · subst e
              exact hok.2 hg
            · exact HA.out j h (by omega))
          clear hok HA
          have HG := Lib.hid hg
          clear hg
          go_wp2
          all_goals first
            | (exfalso; have hg := HG.out; (try simp only [Bool.not_eq_false', Bool.not_eq_true', decide_eq_true_eq, decide_eq_false_iff_not, beq_iff_eq, beq_eq_false_iff_ne, ne_eq] at *); omega)
            | (go_round
               case rel => exact ⟨i + 1, by go_num, by rw [E2.out]; omega, HA2⟩
               case measure => simp [intOf]; omega)
        · have HF : Hid (r = false) := Lib.hid (by
            rw [← HR.out]
            cases e : nameOk N.data.toList with
            | false => rfl
            | true => exact absurd (hok.1 (((name_iff _).1 e).2.2 i (by rw [E2.out]; exact hlt))) hg)
          have HG := Lib.hid hg
          clear hg hok HA
          go_wp2
          all_goals first
            | (exfalso; have hg := HG.out; (try simp only [Bool.not_eq_false', Bool.not_eq_true', decide_eq_true_eq, decide_eq_false_iff_not, beq_iff_eq, beq_eq_false_iff_ne, ne_eq] at *); omega)
            | (go_ret; exact ⟨ret_bool HF.out.symm, rfl⟩)
      · have HT : Hid (r = true) := Lib.hid (by
          refine HR.out.symm.trans ((name_iff _).2 ⟨by rw [E2.out]; exact h1, by rw [E2.out]; exact h2, fun j h => HA.out j h ?_⟩)
          have := E2.out
          omega)
        clear HA
        go_wp2
        go_ret
        exact ⟨ret_bool HT.out.symm, rfl⟩
  · have HF : Hid (r = false) := Lib.hid (by
      rw [← HR.out]
      cases e : nameOk N.data.toList with
      | false => rfl
      | true =>
        have h := (name_iff _).1 e
        have h1 := h.1
        have h2 := h.2.1
        rw [e2] at h1 h2
        exact absurd ⟨h1, h2⟩ hlen)
    clear e2
    by_cases h1 : N.size < 1
    · clear hlen
      go_enter Tryz.func89, Tryz.ntmps89
      go_wp2
      go_ret
      exact ⟨ret_bool HF.out.symm, rfl⟩
    · have h2 : 32 < N.size := by omega
      clear hlen
      go_enter Tryz.func89, Tryz.ntmps89
      go_wp2
      go_ret
      exact ⟨ret_bool HF.out.symm, rfl⟩

/-! ### Find -/
def FRel (l : List Lab) (n : List UInt8) (v : Value) : Prop := ∃ k : Nat, k ≤ l.length ∧ v = .int .i64 (k : Int) ∧ Hid (find l n = find (l.drop k) n)
theorem find_cons (x : Lab) (l : List Lab) (n : List UInt8) : find (x :: l) n = if (x.1 == n) = true then some x.2 else find l n := by
  unfold find
  rw [List.find?_cons]
  split <;> simp_all

end Go.Proofs.YtkgmcabamhpjhaaGreat.LbRef

namespace Go.Proofs.YtkgmcabamhpjhaaGreat.LbCmp
open Go Go.RowKit Words AppN Less LbSpec LbText LbMem LbRef UtOwn

/-- '==' of two labels. -/
theorem run_eqL (w : World) (x y : Lab) : (binOp .eql 70 (.agg #[.string ⟨x.1.toArray⟩, .string ⟨x.2.toArray⟩]) (.agg #[.string ⟨y.1.toArray⟩, .string ⟨y.2.toArray⟩])).run Tryz.prog w = .ok (.bool (x == y)) w := by
  have hq : (x == y) = (x.1 == y.1 && x.2 == y.2) := rfl
  rw [run_eql_struct, run_equalIn_agg w 9999 70 _ _ (by kernel_rfl) (by kernel_rfl), hq]
  simp only [Program.fieldsOf, Tryz.underlying70, Op.eqFields, part, Sem.run_bind, Sem.run_ite]
  simp [go_sem, Tryz.underlying9]
  cases h1 : x.1 == y.1 <;> cases h2 : x.2 == y.2 <;> simp_all
theorem below_drewN {w0 w : World} {B : Nat} (h : Below B w0 w) (k : Nat) : Below B w0 (w.drewN k) := ⟨h.os, h.tape, h.output, h.size, h.block⟩
def CRel (w : World) (a b : List Lab) (v : Value) (wr : World) : Prop := ∃ k : Nat, k ≤ a.length ∧ k ≤ b.length ∧ v = .int .i64 (k : Int) ∧ Hid (cmp a b = cmp (a.drop k) (b.drop k)) ∧ Hid (Below w.heap.size w wr)

set_option maxHeartbeats 3200000 in
set_option maxRecDepth 100000 in
theorem rcmp_any (w : World) (a b : List Lab) (A B : Option Addr) (m n c d : Nat) (ha : Lb w A m c a) (hb : Lb w B n d b) :
    Calls Tryz.prog 90 #[.slice A m c, .slice B n d] w fun e w' => e = .returned (.int .i64 (cmp a b)) ∧ Below w.heap.size w w' := by
  obtain ⟨rfl, hc, hm, hra⟩ := ha
  obtain ⟨rfl, hd, hn, hrb⟩ := hb
  unfold maxLen at hm hn
  have HRA := Lib.hid hra
  have HRB := Lib.hid hrb
  clear hra hrb
  obtain ⟨r, hrr⟩ : ∃ r, cmp a b = r := ⟨_, rfl⟩
  have HRR := Lib.hid hrr
  rw [hrr]
  clear hrr
  go_enter Tryz.func90, Tryz.ntmps90
  go_wp2
  go_loopw [5] (fun v wr => CRel w a b v wr) (fun v _ => a.length - (intOf v).toNat)
  case atStart => exact ⟨0, Nat.zero_le _, Nat.zero_le _, rfl, Lib.hid (by simp), Lib.hid (Below.refl _ _)⟩
  case round =>
    obtain ⟨k, hka, hkb, rfl, HC, HB⟩ := hrel
    by_cases hlt : k < a.length ∧ k < b.length
    · obtain ⟨hla, hlb⟩ := hlt
      obtain ⟨g1, o1, rfl, hg1, hc1⟩ := HRA.out (by rw [flat_len]; omega)
      obtain ⟨g2, o2, rfl, hg2, hc2⟩ := HRB.out (by rw [flat_len]; omega)
      obtain ⟨p0, p1⟩ := cellsL hc1 hla
      obtain ⟨q0, q1⟩ := cellsL hc2 hlb
      have k0 := (HB.out.cell (p := ⟨g1, o1 + k * 2, none⟩) hg1).trans p0
      have k1 := (HB.out.cell (p := ⟨g1, o1 + k * 2 + 1, none⟩) hg1).trans p1
      have l0 := (HB.out.cell (p := ⟨g2, o2 + k * 2, none⟩) hg2).trans q0
      have l1 := (HB.out.cell (p := ⟨g2, o2 + k * 2 + 1, none⟩) hg2).trans q1
      have HD : Hid (r = if a[k] = b[k] then cmp (a.drop (k + 1)) (b.drop (k + 1)) else if ltL a[k] b[k] = true then -1 else 1) := Lib.hid (by
        have h := HC.out
        rw [HRR.out, List.drop_eq_getElem_cons hla, List.drop_eq_getElem_cons hlb, cmp] at h
        exact h)
      have HL := Lib.hid (show cmp a b = r from HRR.out)
      have he := fun w => run_eqL w a[k] b[k]
      clear hc1 hc2 p0 p1 q0 q1 HC
      generalize a[k] = x at *
      generalize b[k] = y at *
      obtain ⟨x1, x2⟩ := x
      obtain ⟨y1, y2⟩ := y
      simp only at k0 k1 l0 l1 he
      by_cases e : ((x1, x2) : Lab) = (y1, y2)
      · rw [if_pos e] at HD
        have e' : (((x1, x2) : Lab) == (y1, y2)) = true := by simpa using e
        rw [e'] at he
        clear e e'
        go_wp2
        go_quiet (fail)
        go_wp2
        go_roundw
        case rel => exact ⟨k + 1, by omega, by omega, by go_num, Lib.hid (by rw [HL.out]; exact HD.out), Lib.hid (below_drewN HB.out _)⟩
        case measure => simp [intOf]; omega
      · rw [if_neg e] at HD
        have e' : (((x1, x2) : Lab) == (y1, y2)) = false := beq_eq_false_iff_ne.2 e
        rw [e'] at he
        clear e e'
        unfold ltL at HD
        obtain ⟨s1, h1⟩ : ∃ s, less x1 y1 = s := ⟨_, rfl⟩
        obtain ⟨s2, h2⟩ : ∃ s, (x1 == y1) = s := ⟨_, rfl⟩
        obtain ⟨s3, h3⟩ : ∃ s, less x2 y2 = s := ⟨_, rfl⟩
        simp only [h1, h2, h3] at HD
        rw [← less_is] at h1 h3
        cases s1 with
        | true =>
          go_wp2
          go_quiet (fail)
          go_wp2
          go_quiet (fail)
          go_wp2
          go_ret
          exact ⟨ret_int HD.out.symm, below_drewN (below_drewN HB.out _) _⟩
        | false =>
          cases s2 with
          | false =>
            go_wp2
            go_quiet (fail)
            go_wp2
            go_quiet (fail)
            go_wp2
            go_ret
            exact ⟨ret_int HD.out.symm, below_drewN (below_drewN HB.out _) _⟩
          | true =>
            cases s3 with
            | true =>
              go_wp2
              go_quiet (fail)
              go_wp2
              go_quiet (fail)
              go_wp2
              go_ret
              exact ⟨ret_int HD.out.symm, below_drewN (below_drewN HB.out _) _⟩
            | false =>
              go_wp2
              go_quiet (fail)
              go_wp2
              go_quiet (fail)
              go_wp2
              go_ret
              exact ⟨ret_int HD.out.symm, below_drewN (below_drewN HB.out _) _⟩
    · have HE : Hid (r = if a.length < b.length then -1 else if b.length < a.length then 1 else 0) := Lib.hid (by
        have h := HC.out
        rw [HRR.out] at h
        rw [h]
        rcases Nat.lt_trichotomy a.length b.length with h1 | h1 | h1
        · have : k = a.length := by omega
          subst this
          rw [List.drop_length, if_pos h1, List.drop_eq_getElem_cons h1, cmp]
        · have h2 : k = a.length := by omega
          rw [List.drop_eq_nil_of_le (by omega), List.drop_eq_nil_of_le (by omega), if_neg (by omega), if_neg (by omega), cmp]
        · have : k = b.length := by omega
          subst this
          rw [List.drop_length, if_neg (by omega), if_pos h1, List.drop_eq_getElem_cons h1, cmp])
      clear HC
      rcases Nat.lt_trichotomy a.length b.length with h1 | h1 | h1
      · have hk : k = a.length := by omega
        rw [if_pos h1] at HE
        clear hlt
        subst hk
        go_wp2
        go_ret
        exact ⟨ret_int HE.out.symm, HB.out⟩
      · have hk : k = a.length := by omega
        rw [if_neg (by omega), if_neg (by omega)] at HE
        clear hlt
        subst hk
        go_wp2
        all_goals first
          | (exfalso; omega)
          | (go_ret; exact ⟨ret_int HE.out.symm, HB.out⟩)
      · have hk : k = b.length := by omega
        rw [if_neg (by omega), if_pos h1] at HE
        clear hlt
        subst hk
        go_wp2
        all_goals first
          | (exfalso; omega)
          | (go_ret; exact ⟨ret_int HE.out.symm, HB.out⟩)

set_option maxHeartbeats 800000 in
theorem rsame_any (w : World) (a b : List Lab) (A B : Option Addr) (m n c d : Nat) (ha : Lb w A m c a) (hb : Lb w B n d b) :
    Calls Tryz.prog 57 #[.slice A m c, .slice B n d] w fun e w' => e = .returned (.bool (a == b)) ∧ Below w.heap.size w w' := by
  have HC := Lib.hid (rcmp_any w a b A B m n c d ha hb)
  have hq : (cmp a b == 0) = (a == b) := by
    rw [Bool.eq_iff_iff, beq_iff_eq, beq_iff_eq]
    exact cmp_eq
  rw [← hq]
  generalize cmp a b = r at *
  clear ha hb hq
  go_enter Tryz.func57, Tryz.ntmps57
  go_wp2_with fail
  refine HC.out.mono ?_
  rintro e w1 ⟨rfl, hb1⟩
  have HB1 := Lib.hid hb1
  clear hb1
  go_wp2
  all_goals
    go_ret
    refine ⟨ret_bool ?_, HB1.out⟩
  all_goals simp_all
end Go.Proofs.YtkgmcabamhpjhaaGreat.LbCmp

namespace Go.Proofs.YtkgmcabamhpjhaaGreat.RcRef
open Go Go.RowKit Words AppN Less LbSpec LbText LbMem LbRef LbCmp RcSpec RcAll RcMem UtOwn

theorem own_lb {w : World} {base : Nat} {v : Value} {l : List Lab} (h : w.ownsRow base 70 2 v l.length (flat l)) : ∃ A c, v = .slice A l.length c ∧ Lb w A l.length c l := by
  obtain ⟨A, c, rfl, h1, h2, h3, _⟩ := own_lab h
  exact ⟨A, c, rfl, rfl, h1, h2, h3⟩
theorem lb_keep {w w' : World} {A : Option Addr} {n c : Nat} {l : List Lab} (h : Lb w A n c l) (hb : Below w.heap.size w w') : Lb w' A n c l :=
  ⟨h.1, h.2.1, h.2.2.1, (h.2.2.2.below hb).more hb.size⟩

set_option maxHeartbeats 3200000 in
theorem rcmpr_any (w : World) (a b : RM) : Calls Tryz.prog 59 #[aggR a, aggR b] w fun e w' => e = .returned (.int .i64 (cmpR a.1 b.1)) ∧ Below w.heap.size w w' := by
  obtain ⟨⟨ta, sa, la, na⟩, pa⟩ := a
  obtain ⟨⟨tb, sb, lb, nb⟩, pb⟩ := b
  unfold aggR cmpR slV S8
  simp only
  have HB : ∀ o o', Hid (Below w.heap.size w ((w.alloc o).alloc o')) := fun o o' => Lib.hid (((Below.refl _ w).alloc (Nat.le_refl _) _).alloc (by simp) _)
  by_cases h1 : ta < tb
  · rw [if_pos (.inl h1)]
    have d1 : decide (ta < tb) = true := decide_eq_true h1
    go_enter Tryz.func59, Tryz.ntmps59
    go_wp2
    go_ret
    exact ⟨rfl, (HB _ _).out⟩
  · by_cases h2 : ta = tb
    · subst h2
      by_cases h3 : sa < sb
      · rw [if_pos (.inr ⟨rfl, h3⟩)]
        have j3 : (sa : Int) < (sb : Int) := by omega
        go_enter Tryz.func59, Tryz.ntmps59
        go_wp2
        go_ret
        exact ⟨rfl, (HB _ _).out⟩
      · rw [if_neg (by omega)]
        have j3 : ¬ (sa : Int) < (sb : Int) := by omega
        by_cases h4 : sa = sb
        · subst h4
          rw [if_pos ⟨rfl, rfl⟩]
          go_enter Tryz.func59, Tryz.ntmps59
          go_wp2
          go_ret
          exact ⟨rfl, (HB _ _).out⟩
        · rw [if_neg (by omega)]
          have j4 : ((sa : Int) == (sb : Int)) = false := beq_eq_false_iff_ne.2 (by omega)
          go_enter Tryz.func59, Tryz.ntmps59
          go_wp2
          go_ret
          exact ⟨rfl, (HB _ _).out⟩
    · rw [if_neg (by omega), if_neg (by omega)]
      have j2 : (ta == tb) = false := beq_eq_false_iff_ne.2 h2
      go_enter Tryz.func59, Tryz.ntmps59
      go_wp2
      go_ret
      exact ⟨rfl, (HB _ _).out⟩

/-! ### Same -/
def eqR (a b : Rec) : Bool := (a.time == b.time) && ((a.seq == b.seq) && ((a.line == b.line) && (a.labels == b.labels)))
theorem eqR_iff {a b : Rec} : eqR a b = true ↔ a = b := by
  obtain ⟨ta, sa, la, na⟩ := a
  obtain ⟨tb, sb, lb, nb⟩ := b
  unfold eqR
  simp only [Bool.and_eq_true, beq_iff_eq, Rec.mk.injEq]
  constructor
  · rintro ⟨h1, h2, h3, h4⟩
    exact ⟨h1, h2, h4, h3⟩
  · rintro ⟨h1, h2, h3, h4⟩
    exact ⟨h1, h2, h4, h3⟩

set_option maxHeartbeats 3200000 in
theorem rsamer_any (w : World) (a b : RM) (ha : Okm w a) (hb : Okm w b) : Calls Tryz.prog 35 #[aggR a, aggR b] w fun e w' => e = .returned (.bool (eqR a.1 b.1)) ∧ Below w.heap.size w w' := by
  obtain ⟨⟨ta, sa, la, na⟩, Aa, ma, ca⟩ := a
  obtain ⟨⟨tb, sb, lb, nb⟩, Ab, mb, cb⟩ := b
  have HLA := Lib.hid ha.labs
  have HLB := Lib.hid hb.labs
  clear ha hb
  simp only at HLA HLB
  have HB : ∀ o o', Hid (Below w.heap.size w ((w.alloc o).alloc o')) := fun o o' => Lib.hid (((Below.refl _ w).alloc (Nat.le_refl _) _).alloc (by simp) _)
  have HS := fun o o' => Lib.hid (rsame_any ((w.alloc o).alloc o') la lb Aa Ab ma mb ca cb (lb_keep HLA.out (HB o o').out) (lb_keep HLB.out (HB o o').out))
  unfold aggR eqR slV S8
  simp only
  obtain ⟨q1, h1⟩ : ∃ q, (ta == tb) = q := ⟨_, rfl⟩
  obtain ⟨q2, h2⟩ : ∃ q, (sa == sb) = q := ⟨_, rfl⟩
  obtain ⟨q3, h3⟩ : ∃ q, (na == nb) = q := ⟨_, rfl⟩
  obtain ⟨q4, h4⟩ : ∃ q, (la == lb) = q := ⟨_, rfl⟩
  have h2' : ((sa : Int) == (sb : Int)) = q2 := by rw [← h2, Bool.eq_iff_iff, beq_iff_eq, beq_iff_eq]; omega
  rw [h1, h2, h3, h4]
  simp only [h4] at HS
  clear h2 h4 HLA HLB
  cases q1 with
  | false =>
    clear HS
    go_enter Tryz.func35, Tryz.ntmps35
    go_wp2
    go_ret
    exact ⟨rfl, (HB _ _).out⟩
  | true =>
    cases q2 with
    | false =>
      clear HS
      go_enter Tryz.func35, Tryz.ntmps35
      go_wp2
      go_ret
      exact ⟨rfl, (HB _ _).out⟩
    | true =>
      cases q3 with
      | false =>
        clear HS
        go_enter Tryz.func35, Tryz.ntmps35
        go_wp2
        go_ret
        exact ⟨rfl, (HB _ _).out⟩
      | true =>
        go_enter Tryz.func35, Tryz.ntmps35
        go_wp2_with fail
        refine (HS _ _).out.mono ?_
        rintro e w1 ⟨rfl, hb1⟩
        have HB1 : Hid (Below w.heap.size w w1) := Lib.hid ((HB _ _).out.trans (hb1.mono (HB _ _).out.size))
        clear hb1 HS
        go_wp2
        go_ret
        exact ⟨rfl, HB1.out⟩

/-! ### SameAll -/
def eqA : List Rec → List Rec → Bool
  | [], [] => true
  | a :: l, b :: m => eqR a b && eqA l m
  | _, _ => false
theorem eqA_iff : ∀ {l m : List Rec}, eqA l m = true ↔ l = m
  | [], [] => by simp [eqA]
  | [], b :: m => by simp [eqA]
  | a :: l, [] => by simp [eqA]
  | a :: l, b :: m => by rw [eqA, Bool.and_eq_true, eqR_iff, eqA_iff]; simp
theorem eqA_len {l m : List Rec} (h : l.length ≠ m.length) : eqA l m = false := by
  cases e : eqA l m with
  | false => rfl
  | true => rw [eqA_iff] at e; exact absurd (congrArg List.length e) h
def ARel (w : World) (a b : List RM) (v : Value) (wr : World) : Prop := ∃ k : Nat, k ≤ a.length ∧ v = .int .i64 (k : Int) ∧ Hid (eqA (recsOf a) (recsOf b) = eqA (recsOf (a.drop k)) (recsOf (b.drop k))) ∧ Hid (Below w.heap.size w wr)
theorem cell_up {w w' : World} {B : Nat} (hb : Below B w w') {p : Addr} (hp : p.block < B) {u : Value} (h : w.cell? p = some u) : w'.cell? p = some u := (hb.cell hp).trans h
theorem below_drew1 {w0 w : World} {B : Nat} (h : Below B w0 w) : Below B w0 w.drew := ⟨h.os, h.tape, h.output, h.size, h.block⟩

set_option maxHeartbeats 3200000 in
set_option maxRecDepth 100000 in
theorem rsamea_any (w : World) (a b : List RM) (A B : Option Addr) (m n c d : Nat) (ha : Rl w A m c a) (hb : Rl w B n d b) :
    Calls Tryz.prog 13 #[.slice A m c, .slice B n d] w fun e w' => e = .returned (.bool (eqA (recsOf a) (recsOf b))) ∧ Below w.heap.size w w' := by
  have HRA := Lib.hid ha
  have HRB := Lib.hid hb
  obtain ⟨rfl, hc, hm, _, _⟩ := ha
  obtain ⟨rfl, hd, hn, _, _⟩ := hb
  unfold maxLen at hm hn
  obtain ⟨r, hrr⟩ : ∃ r, eqA (recsOf a) (recsOf b) = r := ⟨_, rfl⟩
  have HRR := Lib.hid hrr
  rw [hrr]
  clear hrr
  by_cases hlen : a.length = b.length
  · have j : ((a.length : Int) != (b.length : Int)) = false := by rw [hlen]; simp
    go_enter Tryz.func13, Tryz.ntmps13
    go_wp2
    go_loopw [5] (fun v wr => ARel w a b v wr) (fun v _ => a.length - (intOf v).toNat)
    case atStart => exact ⟨0, Nat.zero_le _, rfl, Lib.hid (by simp), Lib.hid (Below.refl _ _)⟩
    case round =>
      obtain ⟨k, hk, rfl, HC, HB⟩ := hrel
      have HL := Lib.hid (show eqA (recsOf a) (recsOf b) = r from HRR.out)
      have HLEN := Lib.hid hlen
      have HRA2 := Lib.hid (HRA.out.below HB.out)
      have HRB2 := Lib.hid (HRB.out.below HB.out)
      clear j hlen
      by_cases hla : k < a.length
      · have hlb : k < b.length := by have := HLEN.out; omega
        obtain ⟨g1, o1, rfl, hg1, hc1⟩ := HRA.out.rd (by rw [flatR_len]; omega)
        obtain ⟨g2, o2, rfl, hg2, hc2⟩ := HRB.out.rd (by rw [flatR_len]; omega)
        obtain ⟨p0, p1, p2, p3⟩ := cellsR hc1 hla
        obtain ⟨q0, q1, q2, q3⟩ := cellsR hc2 hlb
        have k0 := cell_up HB.out (p := ⟨g1, o1 + k * 4, none⟩) hg1 p0
        have k1 := cell_up HB.out (p := ⟨g1, o1 + k * 4 + 1, none⟩) hg1 p1
        have k2 := cell_up HB.out (p := ⟨g1, o1 + k * 4 + 2, none⟩) hg1 p2
        have k3 := cell_up HB.out (p := ⟨g1, o1 + k * 4 + 3, none⟩) hg1 p3
        have l0 := cell_up HB.out (p := ⟨g2, o2 + k * 4, none⟩) hg2 q0
        have l1 := cell_up HB.out (p := ⟨g2, o2 + k * 4 + 1, none⟩) hg2 q1
        have l2 := cell_up HB.out (p := ⟨g2, o2 + k * 4 + 2, none⟩) hg2 q2
        have l3 := cell_up HB.out (p := ⟨g2, o2 + k * 4 + 3, none⟩) hg2 q3
        have HX := Lib.hid (rsamer_any wr.drew a[k] b[k] ((HRA2.out.each _ (List.getElem_mem hla)).below (below_drew1 (Below.refl _ _))) ((HRB2.out.each _ (List.getElem_mem hlb)).below (below_drew1 (Below.refl _ _))))
        have HD : Hid (r = (eqR (a[k]).1 (b[k]).1 && eqA (recsOf (a.drop (k + 1))) (recsOf (b.drop (k + 1))))) := Lib.hid (by
          have h := HC.out
          rw [HRR.out, List.drop_eq_getElem_cons hla, List.drop_eq_getElem_cons hlb] at h
          exact h)
        clear hc1 hc2 p0 p1 p2 p3 q0 q1 q2 q3 HC
        generalize a[k] = x at *
        generalize b[k] = y at *
        obtain ⟨⟨tx, sx, lx, nx⟩, Ax, mx, cx⟩ := x
        obtain ⟨⟨ty, sy, ly, ny⟩, Ay, my, cy⟩ := y
        unfold aggR slV S8 at HX
        unfold slV at k2 l2
        simp only at k0 k1 k2 k3 l0 l1 l2 l3 HX HD
        generalize eqR ⟨tx, sx, lx, nx⟩ ⟨ty, sy, ly, ny⟩ = q at *
        have hi1 : (0 : Int) ≤ (k : Int) := by omega
        have hi2 : (k : Int) < (a.length : Int) := by omega
        have hi3 : (k : Int) < (b.length : Int) := by omega
        cases q with
        | true =>
          go_wp2
          go_region_law (first | (go_simp; go_at_call 35; ((with_reducible refine HX.out.mono ?_); rintro e w1 ⟨rfl, hb1⟩)))
          all_goals
            have HB1 : Hid (Below w.heap.size w w1) := Lib.hid ((below_drew1 HB.out).trans (hb1.mono HB.out.size))
            clear hb1 HX
            go_wp2
            go_roundw
            case rel => exact ⟨k + 1, by omega, by go_num, Lib.hid (by rw [HL.out, HD.out]; rfl), HB1⟩
            case measure => simp [intOf]; omega
        | false =>
          go_wp2
          go_region_law (first | (go_simp; go_at_call 35; ((with_reducible refine HX.out.mono ?_); rintro e w1 ⟨rfl, hb1⟩)))
          all_goals
            have HB1 : Hid (Below w.heap.size w w1) := Lib.hid ((below_drew1 HB.out).trans (hb1.mono HB.out.size))
            clear hb1 HX
            go_wp2
            go_ret
            exact ⟨ret_bool (by rw [HD.out]; rfl), HB1.out⟩
      · have hkl : k = a.length := by omega
        have HD : Hid (r = true) := Lib.hid (by
          have h := HC.out
          have hlen := HLEN.out
          rw [HRR.out, hkl, List.drop_length, List.drop_eq_nil_of_le (by omega)] at h
          exact h)
        clear HC hla
        subst hkl
        go_wp2
        go_ret
        exact ⟨ret_bool HD.out.symm, HB.out⟩
  · have HE : Hid (r = false) := Lib.hid (by rw [← HRR.out]; exact eqA_len (by unfold recsOf; simpa using hlen))
    have j : ((a.length : Int) != (b.length : Int)) = true := by simp; omega
    clear hlen
    go_enter Tryz.func13, Tryz.ntmps13
    go_wp2
    go_ret
    exact ⟨ret_bool HE.out.symm, Below.refl _ _⟩
end Go.Proofs.YtkgmcabamhpjhaaGreat.RcRef

