/- The contract of the law's own rising: pairs that rise with gaps between them. Conditions: the set lies in memory. -/
import Derived.Test.YtdmbgjpidlllcaaRxHass
import Derived.Test.YtdmbgjpidlllcaaRxJoins
import Derived.BigQuiet
import Derived.IntWalk
namespace Go.Proofs.Ytdmbgjpidlllcaa.RxRis
open Go Go.RowKit Words AppN Km Mo_ RxSpec RxEq RxMem RxPeek RxIn RxEsc RxCln RxHas RxSetP

def RsRel (W : World) (l : List Nat) (v : Value) (wr : World) : Prop := ∃ j : Nat, j ≤ l.length ∧ v = .int .i64 (j : Int) ∧ Hid (Below W.heap.size W wr)
set_option maxHeartbeats 3200000 in
set_option maxRecDepth 100000 in
theorem rising_any (w : World) (A : Option Addr) (c : Nat) (l : List Nat) (hr : Rd w w.heap.size A (l.map R32)) (hc : l.length ≤ c) (hm : c ≤ maxLen) (hR : Ris l) :
    Calls Try.prog 14 #[.slice A l.length c] w fun e w' => e = .returned (.bool true) ∧ Below w.heap.size w w' := by
  unfold maxLen at hm
  have HR := Lib.hid hr
  obtain ⟨h2, hat⟩ := ris_at l hR
  have HAT := Lib.hid hat
  have H2 := Lib.hid h2
  clear hr hR hat h2
  go_enter Try.func14, Try.ntmps14
  go_wp2
  go_loopw [3] (fun v wr => RsRel w l v wr) (fun v _ => l.length - (intOf v).toNat)
  case atStart => exact ⟨0, by omega, rfl, Lib.hid (Below.refl _ _)⟩
  case round =>
    obtain ⟨j, hj, rfl, HBr⟩ := hrel
    by_cases hlt : j < l.length
    case neg =>
      have d1 : decide ((j : Int) < (l.length : Int)) = false := decide_eq_false (by omega)
      have d2 : ((l.length : Int) % 2 == 0) = true := by
        have := H2.out
        simp
        omega
      go_wp2
      go_ret
      exact ⟨rfl, HBr.out⟩
    case pos =>
      obtain ⟨q1, q2, q3⟩ := HAT.out j hlt
      obtain ⟨g1, off, eA, hg, hcs⟩ := HR.out (by simp; omega)
      subst eA
      have k0 := cell_up HBr.out (p := ⟨g1, off + j, none⟩) hg (cellR hcs hlt)
      match j, hj, hlt, q1, q2, q3, k0 with
      | 0, hj, hlt, q1, q2, q3, k0 =>
        rw [show ((0 : Nat) : Int) = 0 from rfl]
        rw [Nat.add_zero] at k0
        have d1 : decide ((0 : Int) < (l.length : Int)) = true := decide_eq_true (by omega)
        have d2 : ((0 : Int).tmod 2 == 1) = false := rfl
        have d3 : ((0 : Int).tmod 2 == 0) = true := rfl
        have d7 : decide ((0 : Int) < 0) = false := rfl
        have j0 : (0 : Int) ≤ 0 := by omega
        have d5 : decide (((l[0] : Nat) : Int) < 0) = false := decide_eq_false (by omega)
        have d6 : decide ((1114111 : Int) < ((l[0] : Nat) : Int)) = false := decide_eq_false (by omega)
        have j1 : (0 : Int) < (l.length : Int) := by omega
        clear q1 q2 q3 hcs HAT
        generalize l[0] = x at *
        go_wp2
        go_big_quiet (fail)
        go_wp2
        exact ⟨⟨1, by omega, by go_num, Lib.hid (below_drewN HBr.out _)⟩, by simp [intOf]; omega⟩
      | k + 1, hj, hlt, q1, q2, q3, k0 =>
        have hb1 : k < l.length := Nat.lt_of_succ_lt hlt
        have p1 := cell_up HBr.out (p := ⟨g1, off + k, none⟩) hg (cellR hcs hb1)
        have q2' : (k + 1) % 2 = 1 → l[k] ≤ l[k + 1] := q2
        have q3' : (k + 1) % 2 = 0 → 0 < k + 1 → l[k] + 1 < l[k + 1] := q3
        clear q2 q3
        rw [show ((k + 1 : Nat) : Int) = (k : Int) + 1 from rfl] at *
        have d1 : decide ((k : Int) + 1 < (l.length : Int)) = true := decide_eq_true (by omega)
        have d5 : decide (((l[k + 1] : Nat) : Int) < 0) = false := decide_eq_false (by omega)
        have d6 : decide ((1114111 : Int) < ((l[k + 1] : Nat) : Int)) = false := decide_eq_false (by omega)
        have d7 : decide ((0 : Int) < (k : Int) + 1) = true := decide_eq_true (by omega)
        have hmod : ((k : Int) + 1).tmod 2 = (((k + 1) % 2 : Nat) : Int) := by rw [Int.tmod_eq_emod_of_nonneg (by omega)]; omega
        have d2 : (((k : Int) + 1).tmod 2 == 1) = decide ((k + 1) % 2 = 1) := by rw [hmod, Bool.eq_iff_iff]; simp; omega
        have d3 : (((k : Int) + 1).tmod 2 == 0) = decide ((k + 1) % 2 = 0) := by rw [hmod, Bool.eq_iff_iff]; simp; omega
        have f2 : (((k : Int) + 1) % 2 == 1) = decide ((k + 1) % 2 = 1) := by rw [Bool.eq_iff_iff]; simp; omega
        have f3 : (((k : Int) + 1) % 2 == 0) = decide ((k + 1) % 2 = 0) := by rw [Bool.eq_iff_iff]; simp; omega
        have e2 : (0 : Int) ≤ (k : Int) := by omega
        have e3 : (k : Int) < (l.length : Int) := by omega
        have e4 : (k : Int) + 1 < (l.length : Int) := by omega
        have e6 : (0 : Int) ≤ (k : Int) + 1 := by omega
        have e7 : IntKind.i64.wrap (k : Int) = (k : Int) := IntWalk.i64_in _ (by omega)
        have e5 : IntKind.i64.wrap ((k : Int) + 1 - 1) = (k : Int) := by rw [show (k : Int) + 1 - 1 = (k : Int) by omega]; exact IntWalk.i64_in _ (by omega)
        clear hmod
        by_cases ho : (k + 1) % 2 = 1
        · have q := q2' ho
          rw [decide_eq_true ho] at d2 f2
          rw [decide_eq_false (show ¬ (k + 1) % 2 = 0 by omega)] at d3 f3
          have d4 : decide (((l[k + 1] : Nat) : Int) < ((l[k] : Nat) : Int)) = false := decide_eq_false (by omega)
          have d8 : decide (l[k + 1] < l[k]) = false := decide_eq_false (by omega)
          clear q1 q2' q3' q hcs HAT ho
          generalize l[k + 1] = x at *
          generalize l[k] = y at *
          go_wp2
          go_big_quiet (fail)
          clear e5
          go_wp2
          exact ⟨⟨k + 2, by omega, by go_num, Lib.hid (below_drewN HBr.out _)⟩, by simp [intOf]; omega⟩
        · have q := q3' (by omega) (by omega)
          rw [decide_eq_false ho] at d2 f2
          rw [decide_eq_true (show (k + 1) % 2 = 0 by omega)] at d3 f3
          have d4 : decide (((l[k + 1] : Nat) : Int) ≤ ((l[k] : Nat) : Int) + 1) = false := decide_eq_false (by omega)
          have d8 : decide (l[k + 1] ≤ l[k] + 1) = false := decide_eq_false (by omega)
          have j6 : IntKind.i32.wrap (((l[k] : Nat) : Int) + 1) = ((l[k] : Nat) : Int) + 1 := IntWalk.i32_in _ (by omega)
          clear q1 q2' q3' q hcs HAT ho
          generalize l[k + 1] = x at *
          generalize l[k] = y at *
          go_wp2
          go_big_quiet (fail)
          clear e5
          go_wp2
          exact ⟨⟨k + 2, by omega, by go_num, Lib.hid (below_drewN HBr.out _)⟩, by simp [intOf]; omega⟩
end Go.Proofs.Ytdmbgjpidlllcaa.RxRis
