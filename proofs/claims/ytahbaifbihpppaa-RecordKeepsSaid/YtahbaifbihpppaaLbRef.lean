/- The contracts of the document's Name, Find, Compare and Same of labels: memory is only read. Conditions: none but that the lists lie in memory. -/
import Derived.Test.YtahbaifbihpppaaLbMem
import Derived.BigQuiet
import Derived.Lib.Hide
import Derived.Outline
import Derived.WalkKit
import Derived.IntWalk
import Derived.WalkLawsBesides
namespace Go.Proofs.Ytahbaifbihpppaa.LbRef
open Go Go.RowKit Words AppN Less LbSpec LbText LbMem

theorem ret_int {k : IntKind} {a b : Int} (h : a = b) : Ending.returned (.int k a) = .returned (.int k b) := by rw [h]
theorem ret_bool {a b : Bool} (h : a = b) : Ending.returned (.bool a) = .returned (.bool b) := by rw [h]
theorem str_list (s : ByteArray) : s = ⟨s.data.toList.toArray⟩ := by simp
theorem size_len (l : List UInt8) : (⟨l.toArray⟩ : ByteArray).size = l.length := by show l.toArray.size = _; simp

/-! ### Name -/
def okc (i : Nat) (c : UInt8) : Bool := letter c || (decide (0 < i) && digit c)
theorem okc_iff (i : Nat) (c : UInt8) : okc i c = true ↔ (97 ≤ c.toNat ∧ c.toNat ≤ 122) ∨ c.toNat = 95 ∨ (0 < i ∧ 48 ≤ c.toNat ∧ c.toNat ≤ 57) := by
  unfold okc letter digit
  simp only [Bool.or_eq_true, Bool.and_eq_true, decide_eq_true_eq]
  constructor
  · rintro ((h | h) | h)
    · exact .inl h
    · exact .inr (.inl h)
    · exact .inr (.inr h)
  · rintro (h | h | h)
    · exact .inl (.inl h)
    · exact .inl (.inr h)
    · exact .inr h
theorem name_iff (l : List UInt8) : nameOk l = true ↔ 1 ≤ l.length ∧ l.length ≤ 32 ∧ ∀ j (h : j < l.length), okc j l[j] = true := by
  cases l with
  | nil => simp [nameOk]
  | cons c t =>
    unfold nameOk
    simp only [Bool.and_eq_true, List.all_eq_true, decide_eq_true_eq, List.length_cons]
    constructor
    · rintro ⟨⟨h1, h2⟩, h3⟩
      refine ⟨by omega, by omega, fun j h => ?_⟩
      cases j with
      | zero => unfold okc; simp [h1]
      | succ j =>
        have h4 := h2 (t[j]'(by omega)) (List.getElem_mem _)
        unfold okc
        simpa using h4
    · rintro ⟨_, h2, h3⟩
      refine ⟨⟨?_, fun x hx => ?_⟩, by omega⟩
      · have := h3 0 (by omega)
        unfold okc at this
        simpa using this
      · obtain ⟨j, hj, rfl⟩ := List.mem_iff_getElem.1 hx
        have := h3 (j + 1) (by omega)
        unfold okc at this
        simpa using this
def NRel (n : List UInt8) (v : Value) : Prop := ∃ i : Nat, v = .int .i64 (i : Int) ∧ i ≤ n.length ∧ Hid (∀ j (h : j < n.length), j < i → okc j n[j] = true)

set_option maxHeartbeats 3200000 in
set_option maxRecDepth 100000 in
theorem rname_any (N : ByteArray) (w : World) : Calls Try.prog 52 #[.string N] w fun e w' => e = .returned (.bool (nameOk N.data.toList)) ∧ w = w' := by
  have e2 : N.data.toList.length = N.size := by simp
  obtain ⟨r, hr⟩ : ∃ r, nameOk N.data.toList = r := ⟨_, rfl⟩
  have HR := Lib.hid hr
  have E2 := Lib.hid e2
  rw [hr]
  clear hr
  by_cases hlen : 1 ≤ N.size ∧ N.size ≤ 32
  · obtain ⟨h1, h2⟩ := hlen
    clear e2
    go_enter Try.func52, Try.ntmps52
    go_wp2
    go_loop [3] (fun v => NRel N.data.toList v) (fun v => N.size - (intOf v).toNat)
    case atStart => exact ⟨0, rfl, Nat.zero_le _, Lib.hid (fun j h h' => by omega)⟩
    case round =>
      obtain ⟨i, rfl, hi, HA⟩ := hrel
      rw [E2.out] at hi
      by_cases hlt : i < N.size
      · obtain ⟨c, hc⟩ : ∃ c, (N[i]'hlt).toNat = c := ⟨_, rfl⟩
        have hok : okc i (N.data.toList[i]'(by rw [E2.out]; exact hlt)) = true ↔ (97 ≤ c ∧ c ≤ 122) ∨ c = 95 ∨ (0 < i ∧ 48 ≤ c ∧ c ≤ 57) := by
          rw [okc_iff, ← hc]
          rfl
        by_cases hg : (97 ≤ c ∧ c ≤ 122) ∨ c = 95 ∨ (0 < i ∧ 48 ≤ c ∧ c ≤ 57)
        · have HA2 : Hid (∀ j (h : j < N.data.toList.length), j < i + 1 → okc j N.data.toList[j] = true) := Lib.hid (fun j h hj => by
            by_cases e : j = i
            · subst e
              exact hok.2 hg
            · exact HA.out j h (by omega))
          clear hok HA
          have HG := Lib.hid hg
          clear hg
          go_wp2
          all_goals first
            | (exfalso; have hg := HG.out; (try simp only [Bool.not_eq_false', Bool.not_eq_true', decide_eq_true_eq, decide_eq_false_iff_not, beq_iff_eq, beq_eq_false_iff_ne, ne_eq, Bool.and_eq_true, Bool.or_eq_true, Bool.and_eq_false_iff, Bool.or_eq_false_iff] at *); omega)
            | (go_round
               case rel => exact ⟨i + 1, by go_num, by rw [E2.out]; omega, HA2⟩
               case measure => simp [intOf]; omega)
        · have HF : Hid (r = false) := Lib.hid (by
            rw [← HR.out]
            cases e : nameOk N.data.toList with
            | false => rfl
            | true => exact absurd (hok.1 (((name_iff _).1 e).2.2 i (by rw [E2.out]; exact hlt))) hg)
          have HG := Lib.hid hg
          clear hg hok HA
          go_wp2
          all_goals first
            | (exfalso; have hg := HG.out; (try simp only [Bool.not_eq_false', Bool.not_eq_true', decide_eq_true_eq, decide_eq_false_iff_not, beq_iff_eq, beq_eq_false_iff_ne, ne_eq, Bool.and_eq_true, Bool.or_eq_true, Bool.and_eq_false_iff, Bool.or_eq_false_iff] at *); omega)
            | (go_ret; exact ⟨ret_bool HF.out.symm, rfl⟩)
      · have HT : Hid (r = true) := Lib.hid (by
          refine HR.out.symm.trans ((name_iff _).2 ⟨by rw [E2.out]; exact h1, by rw [E2.out]; exact h2, fun j h => HA.out j h ?_⟩)
          have := E2.out
          omega)
        clear HA
        go_wp2
        go_ret
        exact ⟨ret_bool HT.out.symm, rfl⟩
  · have HF : Hid (r = false) := Lib.hid (by
      rw [← HR.out]
      cases e : nameOk N.data.toList with
      | false => rfl
      | true =>
        have h := (name_iff _).1 e
        have h1 := h.1
        have h2 := h.2.1
        rw [e2] at h1 h2
        exact absurd ⟨h1, h2⟩ hlen)
    clear e2
    by_cases h1 : N.size < 1
    · clear hlen
      go_enter Try.func52, Try.ntmps52
      go_wp2
      go_ret
      exact ⟨ret_bool HF.out.symm, rfl⟩
    · have h2 : 32 < N.size := by omega
      clear hlen
      go_enter Try.func52, Try.ntmps52
      go_wp2
      go_ret
      exact ⟨ret_bool HF.out.symm, rfl⟩

/-! ### Find -/
def FRel (l : List Lab) (n : List UInt8) (v : Value) : Prop := ∃ k : Nat, k ≤ l.length ∧ v = .int .i64 (k : Int) ∧ Hid (find l n = find (l.drop k) n)
theorem find_cons (x : Lab) (l : List Lab) (n : List UInt8) : find (x :: l) n = if (x.1 == n) = true then some x.2 else find l n := by
  unfold find
  rw [List.find?_cons]
  split <;> simp_all

end Go.Proofs.Ytahbaifbihpppaa.LbRef
