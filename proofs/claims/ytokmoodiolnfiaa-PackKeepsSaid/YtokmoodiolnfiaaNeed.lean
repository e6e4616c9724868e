/- The contracts of the document's own Need and Same: the bits that a number needs; two lists of numbers are the same; nothing changes. Conditions: 64 bits; lengths at most capacities, these at most the model's greatest length. -/
import Derived.Test.YtokmoodiolnfiaaRows
import Derived.Test.YtokmoodiolnfiaaWords
import Derived.Test.YtokmoodiolnfiaaPkPlain
import Derived.WalkKit
import Derived.LoopTactic
import Derived.Lib.Hide
import Derived.Outline
import Derived.Deep.QuietTactic
import Derived.BigQuiet
namespace Go.Proofs.Ytokmoodiolnfiaa.Need
open Go Go.RowKit Words PkPlain

def NRel (n : Nat) (x i : Value) : Prop := ∃ (k m : Nat), m < 18446744073709551616 ∧ x = .int .u64 (m : Int) ∧ i = .int .i64 (k : Int) ∧ k ≤ 64 ∧ Hid (need n = k + need m)

set_option maxHeartbeats 400000 in
theorem need_any (n : Nat) (w : World) (h : n < 18446744073709551616) :
    Calls Try.prog 15 #[.int .u64 (n : Int)] w fun e w' => e = .returned (.int .i64 ((need n : Nat) : Int)) ∧ w = w' := by
  have H64 := Lib.hid (need_64 (n := n) (by omega))
  have HN : Hid (need n = 0 + need n) := by show need n = 0 + need n; omega
  go_enter Try.func15, Try.ntmps15
  go_wp2
  go_loop [0, 3] (fun x i => NRel n x i) (fun x _ => (intOf x).toNat)
  case atStart => exact ⟨0, n, h, rfl, rfl, by omega, HN⟩
  case round =>
    obtain ⟨k, m, hm, rfl, rfl, hk, hn⟩ := hrel
    have h1 := H64.out
    have h2 := hn.out
    by_cases h0 : 0 < m
    · have h3 := need_half m h0
      have hk' : k + 1 ≤ 64 := by omega
      have HN' : Hid (need n = (k + 1) + need (m / 2)) := by show need n = (k + 1) + need (m / 2); omega
      clear h1 h2 h3 hn
      go_wp2
      go_round
      case rel => exact ⟨k + 1, m / 2, by omega, by rw [Int.natCast_ediv]; rfl, by go_num, hk', HN'⟩
      case measure => simp [intOf]; omega
    · obtain rfl : m = 0 := by omega
      rw [need_zero] at h2
      have h4 : k = need n := by omega
      have H4 := Lib.hid h4
      clear h1 h2 hn h4
      go_wp2
      go_ret
      rw [← H4.out]
      exact ⟨rfl, rfl⟩

theorem need_q (n : Nat) (w : World) (h : n < 18446744073709551616) :
    Calls Try.prog 15 #[.int .u64 (n : Int)] w fun e w' => e = .returned (.int .i64 ((need n : Nat) : Int)) ∧ w' = w := (need_any n w h).mono fun _ _ h => ⟨h.1, h.2.symm⟩

def SRel (m : Nat) (w : World) (v : Value) (wr : World) : Prop := ∃ i nq : Nat, i ≤ m ∧ v = .int .i64 (i : Int) ∧ wr = w.drewN nq

set_option maxHeartbeats 800000 in
/-- Two lists that are the same. -/
theorem same_eq (l : List UInt64) (A1 A2 : Option Addr) (n1 n2 c1 c2 : Nat) (w : World) (B1 B2 : Nat) (h1 : n1 = l.length) (h2 : n2 = l.length) (hr1 : Rd w B1 A1 (l.map B64)) (hr2 : Rd w B2 A2 (l.map B64)) (hl : l.length ≤ maxLen) :
    Calls Try.prog 14 #[.slice A1 n1 c1, .slice A2 n2 c2] w fun e w' => e = .returned (.bool true) ∧ ∃ nq, w' = w.drewN nq := by
  subst h1 h2
  unfold maxLen at hl
  have HR1 := Lib.hid hr1
  have HR2 := Lib.hid hr2
  clear hr1 hr2
  go_enter Try.func14, Try.ntmps14
  go_wp2
  go_loopw [5] (fun v wr => SRel l.length w v wr) (fun v _ => l.length - (intOf v).toNat)
  case atStart => exact ⟨0, 0, by omega, rfl, rfl⟩
  case round =>
    obtain ⟨i, nq, hi', rfl, rfl⟩ := hrel
    by_cases hlt : i < l.length
    · obtain ⟨b, off, rfl, _, hc1⟩ := HR1.out (by simp; omega)
      obtain ⟨b2, off2, rfl, _, hc2⟩ := HR2.out (by simp; omega)
      have k1 := cell64 hc1 hlt
      have k2 := cell64 hc2 hlt
      have hx := l[i].toNat_lt
      clear hc1 hc2
      generalize l[i].toNat = x at *
      have e1 : (x != x) = false := by simp
      have e2 : (0 : Int) ≤ (i : Int) := by omega
      have e3 : (i : Int) < (l.length : Int) := by omega
      go_wp2
      go_quiet (fail)
      go_wp2
      go_roundw
      case rel => exact ⟨i + 1, _, by omega, by go_num, rfl⟩
      case measure => simp [intOf]; omega
    · obtain rfl : i = l.length := by omega
      go_wp2
      go_ret
      exact ⟨rfl, _, rfl⟩
end Go.Proofs.Ytokmoodiolnfiaa.Need
