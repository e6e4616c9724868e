/- The contracts of the document's own Need and Same: the bits that a number needs; two lists of numbers are the same; nothing changes. Conditions: 64 bits; lengths at most capacities, these at most the model's greatest length. -/
import Derived.Test.YtfojpbbmicmooaaRows
import Derived.Test.YtfojpbbmicmooaaWords
import Derived.Test.YtfojpbbmicmooaaPkPlain
import Derived.WalkKit
import Derived.LoopTactic
import Derived.Lib.Hide
import Derived.Outline
import Derived.Deep.QuietTactic
import Derived.BigQuiet
namespace Go.Proofs.Ytfojpbbmicmooaa.Need
open Go Go.RowKit Words PkPlain

def NRel (n : Nat) (x i : Value) : Prop := ∃ (k m : Nat), m < 18446744073709551616 ∧ x = .int .u64 (m : Int) ∧ i = .int .i64 (k : Int) ∧ k ≤ 64 ∧ Hid (need n = k + need m)

def SRel (m : Nat) (w : World) (v : Value) (wr : World) : Prop := ∃ i nq : Nat, i ≤ m ∧ v = .int .i64 (i : Int) ∧ wr = w.drewN nq

set_option maxHeartbeats 800000 in
/-- Two lists that are the same. -/
theorem same_eq (l : List UInt64) (A1 A2 : Option Addr) (n1 n2 c1 c2 : Nat) (w : World) (B1 B2 : Nat) (h1 : n1 = l.length) (h2 : n2 = l.length) (hr1 : Rd w B1 A1 (l.map B64)) (hr2 : Rd w B2 A2 (l.map B64)) (hl : l.length ≤ maxLen) :
    Calls Try.prog 13 #[.slice A1 n1 c1, .slice A2 n2 c2] w fun e w' => e = .returned (.bool true) ∧ ∃ nq, w' = w.drewN nq := by
  subst h1 h2
  unfold maxLen at hl
  have HR1 := Lib.hid hr1
  have HR2 := Lib.hid hr2
  clear hr1 hr2
  go_enter Try.func13, Try.ntmps13
  go_wp2
  go_loopw [5] (fun v wr => SRel l.length w v wr) (fun v _ => l.length - (intOf v).toNat)
  case atStart => exact ⟨0, 0, by omega, rfl, rfl⟩
  case round =>
    obtain ⟨i, nq, hi', rfl, rfl⟩ := hrel
    by_cases hlt : i < l.length
    · obtain ⟨b, off, rfl, _, hc1⟩ := HR1.out (by simp; omega)
      obtain ⟨b2, off2, rfl, _, hc2⟩ := HR2.out (by simp; omega)
      have k1 := cell64 hc1 hlt
      have k2 := cell64 hc2 hlt
      have hx := l[i].toNat_lt
      clear hc1 hc2
      generalize l[i].toNat = x at *
      have e1 : (x != x) = false := by simp
      have e2 : (0 : Int) ≤ (i : Int) := by omega
      have e3 : (i : Int) < (l.length : Int) := by omega
      go_wp2
      go_quiet (fail)
      go_wp2
      go_roundw
      case rel => exact ⟨i + 1, _, by omega, by go_num, rfl⟩
      case measure => simp [intOf]; omega
    · obtain rfl : i = l.length := by omega
      go_wp2
      go_ret
      exact ⟨rfl, _, rfl⟩
end Go.Proofs.Ytfojpbbmicmooaa.Need
