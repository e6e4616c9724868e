/- The contract of math/bits.Len64 at this program: it answers how many bits a number needs ('PkPlain.need'), and leaves the world alone. The library's contract, which is proved over any program, is applied; its table of numbers is this program's. Condition: 64 bits. · The contracts of pack.rising and pack.gapBits: whether a list rises; how many bits its greatest gap needs; memory is only read. Conditions: the slice's length is at most the model's greatest length; for gapBits the list rises. -/
import Derived.Shelf.Strconv.Itoa0
import Derived.Test.YtfojpbbmicmooaaProg
import Derived.Test.YtfojpbbmicmooaaRows
import Derived.Test.YtfojpbbmicmooaaPkPlain
import Derived.Test.YtfojpbbmicmooaaWords
import Derived.Test.YtfojpbbmicmooaaPkSpecs
import Derived.WalkKit
import Derived.LoopTactic
import Derived.Lib.Hide
import Derived.Outline
import Derived.Deep.QuietTactic
import Derived.BigQuiet
import Derived.IntWalk
import Derived.Laws.Bits64b
namespace Go.Proofs.Ytfojpbbmicmooaa.Len
open Go Go.Shelf PkPlain

def ren : Go.Shelf.Ren := ⟨fun | 129 => 38 | n => n, fun | 53 => 31 | 3 => 3 | 4 => 4 | 46 => 55 | 5 => 5 | 9 => 9 | n => n, fun | n => n⟩
theorem lays : Go.Proofs.Lays.n129 Try.prog ren := {
  mixed := by kernel_rfl
  f129 := Try.func38.trans (congrArg some (by kernel_rfl))
  t3 := Try.underlying3
  a3 := Try.isAgg3
  z3 := Try.sizeOf3
  v3 := Try.zeroValue3
  t4 := Try.underlying4
  a4 := Try.isAgg4
  z4 := Try.sizeOf4
  v4 := Try.zeroValue4
  t5 := Try.underlying5
  a5 := Try.isAgg5
  z5 := Try.sizeOf5
  v5 := Try.zeroValue5
  t9 := Try.underlying9
  a9 := Try.isAgg9
  z9 := Try.sizeOf9
  v9 := Try.zeroValue9
  t46 := Try.underlying55
  a46 := Try.isAgg55
  z46 := Try.sizeOf55
  v46 := Try.zeroValue55
  t53 := Try.underlying31
  a53 := Try.isAgg31
  z53 := Try.sizeOf31
  v53 := Try.zeroValue31 }
theorem aux_need : ∀ (f x : Nat), x < 2 ^ f → Lib.bitLenAux f x = need x
  | 0, x, h => by
    obtain rfl : x = 0 := by simp at h; omega
    rfl
  | f + 1, x, h => by
    rw [Lib.bitLenAux]
    by_cases h0 : x = 0
    · subst h0; rfl
    · rw [if_neg h0, aux_need f (x / 2) (by rw [Nat.pow_succ] at h; omega), need_half x (by omega)]
      omega
/-- Len64. -/
theorem len_any (n : Nat) (w : World) (h : n < 18446744073709551616) :
    Calls Try.prog 38 #[.int .u64 (n : Int)] w fun e w' => e = .returned (.int .i64 ((need n : Nat) : Int)) ∧ w = w' :=
  (Any.bits_Len64 lays (n : Int) w (by omega) (by omega)).mono fun e w' ⟨h1, h2⟩ => by
    rw [show ((n : Int)).toNat = n by omega] at h1
    have e1 : Lib.bitLen n = need n := aux_need 64 n (by omega)
    rw [e1] at h1
    exact ⟨h1, h2.symm⟩
end Go.Proofs.Ytfojpbbmicmooaa.Len

namespace Go.Proofs.Ytfojpbbmicmooaa.PRise
open Go Go.RowKit Words PkPlain PkSpec Len

def RRel (l : List UInt64) (w : World) (v : Value) (wr : World) : Prop := ∃ i nq : Nat, i ≤ l.length ∧ v = .int .i64 ((i : Int) + 1) ∧ Hid (RisingTo l (i + 1)) ∧ wr = w.drewN nq

def RisPost (l : List UInt64) (w : World) (e : Ending) (w' : World) : Prop := (∃ b : Bool, e = .returned (.bool b) ∧ (b = true ↔ Rising l)) ∧ ∃ nq, w' = w.drewN nq

set_option maxHeartbeats 800000 in
theorem rising_any (l : List UInt64) (A : Option Addr) (n c : Nat) (w : World) (B : Nat) (hn : n = l.length) (hr : Rd w B A (l.map B64)) (hl : l.length ≤ 65536) :
    Calls Try.prog 26 #[.slice A n c] w (RisPost l w) := by
  subst hn
  have HR := Lib.hid hr
  clear hr
  go_enter Try.func26, Try.ntmps26
  go_wp2
  go_loopw [3] (fun v wr => RRel l w v wr) (fun v _ => l.length - (intOf v - 1).toNat)
  case atStart => exact ⟨0, 0, by omega, rfl, fun i _ h => absurd h (by omega), rfl⟩
  case round =>
    obtain ⟨i, nq, hi', rfl, hris, rfl⟩ := hrel
    by_cases hlt : i + 1 < l.length
    · obtain ⟨b, off, rfl, _, hc⟩ := HR.out (by simp; omega)
      have k1 := cell64 hc hlt
      have k2 := cell64 hc (k := i) (by omega)
      have hx := l[i].toNat_lt
      have hy := l[i + 1].toNat_lt
      have HST := Lib.hid (fun h1 => rising_step hlt hris.out h1)
      have HNO : Hid (¬ l[i].toNat < l[i + 1].toNat → ¬ Rising l) := fun h1 h2 => h1 (h2 i hlt hlt)
      clear hc hris
      generalize l[i].toNat = x at *
      generalize l[i + 1].toNat = y at *
      have e2 : (0 : Int) ≤ (i : Int) := by omega
      have e3 : (i : Int) < (l.length : Int) := by omega
      have e4 : (i : Int) + 1 < (l.length : Int) := by omega
      have e5 : IntKind.i64.wrap ((i : Int) + 1 - 1) = (i : Int) := by rw [show (i : Int) + 1 - 1 = (i : Int) by omega]; exact IntWalk.i64_in _ (by omega)
      by_cases hxy : x < y
      · have e6 : decide ((y : Int) ≤ (x : Int)) = false := decide_eq_false (by omega)
        go_wp2
        go_quiet (fail)
        clear e5
        go_wp2
        go_roundw
        case rel => exact ⟨i + 1, _, by omega, by go_num, HST.out hxy, rfl⟩
        case measure => simp [intOf]; omega
      · have e6 : decide ((y : Int) ≤ (x : Int)) = true := decide_eq_true (by omega)
        go_wp2
        go_quiet (fail)
        clear e5
        go_wp2
        go_ret
        exact ⟨⟨false, rfl, ⟨(fun h => by cases h), fun h => absurd h (HNO.out hxy)⟩⟩, _, by rw [World.drewN_drewN]⟩
    · have HRI : Hid (Rising l) := fun j hj hk => hris.out j hj (by omega)
      clear hris
      go_wp2
      go_ret
      exact ⟨⟨true, rfl, ⟨fun _ => HRI.out, fun _ => rfl⟩⟩, _, rfl⟩

theorem need_or {a b : Nat} : need (a ||| b) = max (need a) (need b) := by
  apply Nat.le_antisymm
  · rw [need_le]
    apply Nat.or_lt_two_pow
    · exact (need_le _ _).1 (Nat.le_max_left _ _)
    · exact (need_le _ _).1 (Nat.le_max_right _ _)
  · have h := (need_le (a ||| b) _).1 (Nat.le_refl _)
    have h1 : a ≤ a ||| b := Nat.left_le_or
    have h2 : b ≤ a ||| b := Nat.right_le_or
    exact Nat.max_le.2 ⟨(need_le _ _).2 (by omega), (need_le _ _).2 (by omega)⟩
theorem or_u64 {a b : Nat} (ha : a < 18446744073709551616) (hb : b < 18446744073709551616) : bits .or .u64 (a : Int) (b : Int) = ((a ||| b : Nat) : Int) := bits_or_u64_nat a b ha hb

def GRel (l : List UInt64) (w : World) (va vi : Value) (wr : World) : Prop := ∃ i a nq : Nat, i + 1 ≤ l.length ∧ vi = .int .i64 ((i : Int) + 1) ∧ va = .int .u64 (a : Int) ∧ a < 18446744073709551616 ∧ Hid (need a = width ((gaps l).take i)) ∧ wr = w.drewN nq

set_option maxHeartbeats 800000 in
theorem gap_any (l : List UInt64) (A : Option Addr) (n c : Nat) (w : World) (B : Nat) (hn : n = l.length) (hr : Rd w B A (l.map B64)) (hl : l.length ≤ 65536) (h1 : 1 ≤ l.length) (hri : Rising l) :
    Calls Try.prog 27 #[.slice A n c] w fun e w' => e = .returned (.int .i64 ((wd l : Nat) : Int)) ∧ ∃ nq, w' = w.drewN nq := by
  subst hn
  have HR := Lib.hid hr
  have HRI := Lib.hid hri
  clear hr hri
  go_enter Try.func27, Try.ntmps27
  go_wp2
  go_loopw [3, 4] (fun va vi wr => GRel l w va vi wr) (fun _ v _ => l.length - (intOf v - 1).toNat)
  case atStart => exact ⟨0, 0, 0, by omega, rfl, rfl, by omega, rfl, rfl⟩
  case round =>
    obtain ⟨i, a, nq, hi', rfl, rfl, ha, hwd, rfl⟩ := hrel
    by_cases hlt : i + 1 < l.length
    · obtain ⟨b, off, rfl, _, hc⟩ := HR.out (by simp; omega)
      have k1 := cell64 hc hlt
      have k2 := cell64 hc (k := i) (by omega)
      have hx := l[i].toNat_lt
      have hy := l[i + 1].toNat_lt
      have hxy := HRI.out i hlt hlt
      have hg := gaps_take hlt
      generalize l[i].toNat = x at *
      generalize l[i + 1].toNat = y at *
      have HW : Hid (need (a ||| (y - x - 1)) = width ((gaps l).take (i + 1))) := by
        show need (a ||| (y - x - 1)) = _
        rw [hg, width_snoc, need_or, hwd.out]
      have s1 : IntKind.u64.wrap ((y : Int) - (x : Int)) = ((y - x : Nat) : Int) := by rw [IntKind.wrap_u64]; omega
      have s2 : IntKind.u64.wrap (((y - x : Nat) : Int) - 1) = ((y - x - 1 : Nat) : Int) := by rw [IntKind.wrap_u64]; omega
      have s3 := or_u64 ha (show y - x - 1 < 18446744073709551616 by omega)
      have s4 : a ||| (y - x - 1) < 18446744073709551616 := Nat.or_lt_two_pow (n := 64) ha (by omega)
      clear hc hg hwd
      have e2 : (0 : Int) ≤ (i : Int) := by omega
      have e3 : (i : Int) < (l.length : Int) := by omega
      have e4 : (i : Int) + 1 < (l.length : Int) := by omega
      have e5 : IntKind.i64.wrap ((i : Int) + 1 - 1) = (i : Int) := by rw [show (i : Int) + 1 - 1 = (i : Int) by omega]; exact IntWalk.i64_in _ (by omega)
      go_wp2
      go_quiet (fail)
      clear e5
      go_wp2
      go_roundw
      case rel => exact ⟨i + 1, _, _, by omega, by go_num, rfl, s4, HW, rfl⟩
      case measure => simp [intOf]; omega
    · have hin : i = l.length - 1 := by omega
      have e : need a = wd l := by
        have h9 := hwd.out
        rw [hin, ← gaps_length, List.take_length] at h9
        exact h9
      have HE := Lib.hid e
      have HL := fun w' => Lib.hid (len_any a w' ha)
      clear hin e hwd
      go_wp2_with fail
      refine (HL _).out.mono ?_
      rintro e w1 ⟨rfl, rfl⟩
      go_wp2
      go_ret
      rw [HE.out]
      exact ⟨rfl, _, rfl⟩
end Go.Proofs.Ytfojpbbmicmooaa.PRise

