/- slices.Sort at uint64: insertionSortOrdered sorts its part of the row. Conditions: those of the statement. · slices.Sort at uint64: reverseRangeOrdered permutes its part of the row. Conditions: those of the statement. -/
import Derived.Test.YtfojpbbmicmooaaSoKit
namespace Go.Proofs.Ytfojpbbmicmooaa.SoIns
open Go Go.RowKit Go.Sort SoKit

theorem ins_start {a i : Nat} {d : Array Int} (h : SortedIn ltInt a i d) : Ins ltInt a i i d :=
  ⟨fun p q h1 h2 h3 h4 h5 => h p q h1 h2 (by omega), fun q h1 h2 => by omega⟩

set_option maxHeartbeats 4000000 in
theorem ins_any (blk off cap a b N : Nat) (d : Array Int) (w : World) (hH : Holds E64 w blk off d) (hN : d.size = N) (hab : a ≤ b) (hb : b ≤ N) (hsz : N < 4611686018427387904) :
    Calls Try.prog 43 #[.slice (some ⟨blk, off, none⟩) N cap, .int .i64 (a : Int), .int .i64 (b : Int)] w fun e w' =>
      e = .returned (.tuple #[]) ∧ ∃ n d', w' = RW w blk off n d' ∧ PermIn a b d d' ∧ SortedIn ltInt a b d' := by
  have HN : Hid (d.size = N) := hN
  clear hN
  have HH : Hid (Holds E64 w blk off d) := hH
  clear hH
  go_enter Try.func43, Try.ntmps43
  go_wp2
  go_loopw [6] (fun vi wr => ∃ (i n : Nat) (dk : Array Int), vi = .int .i64 (i : Int) ∧ a < i ∧ i ≤ b + 1 ∧ Hid (wr = RW w blk off n dk) ∧ Hid (PermIn a b d dk ∧ (i ≤ b → SortedIn ltInt a i dk) ∧ (b < i → a = b))) (fun vi _ => b + 1 - natOf vi)
  case atStart => exact ⟨a + 1, 0, d, by go_num, by omega, by omega, (rw_self HH.out).symm, permIn_refl _ _ _, fun _ i j h1 h2 h3 => by omega, fun h => by omega⟩
  case round =>
    obtain ⟨i, n, dk, rfl, hai, hib, HW, HP⟩ := hrel
    by_cases hlt : i < b
    · go_wp2_with fail
      go_loopw [7] (fun vj wr2 => ∃ (j m : Nat) (dj : Array Int), vj = .int .i64 (j : Int) ∧ a ≤ j ∧ j ≤ i ∧ Hid (wr2 = RW w blk off m dj) ∧ Hid (PermIn a b d dj ∧ Ins ltInt a j i dj)) (fun vj _ => natOf vj)
      case atStart => exact ⟨i, n, dk, rfl, by omega, Nat.le_refl _, HW, HP.out.1, ins_start (HP.out.2.1 (by omega))⟩
      case round =>
        obtain ⟨j, m, dj, rfl, haj, hji, HW2, HI⟩ := hrel
        have hds : dj.size = d.size := HI.out.1.1
        obtain ⟨G, hc, hf, hg⟩ := rfam HH.out HN.out hds HW2.out
        have HG : Hid (∀ t, G t = dj[t]!) := hg
        have HS : Hid (dj.size = N) := hds.trans HN.out
        clear hg hds
        have out : (j ≤ a ∨ ltInt dj[j]! dj[j - 1]! = false) → ∀ q, ∃ i' n' dk', Value.int .i64 ((i : Int) + 1) = .int .i64 ((i' : Nat) : Int) ∧ a < i' ∧ i' ≤ b + 1 ∧ Hid (wr.drewN q = RW w blk off n' dk') ∧ Hid (PermIn a b d dk' ∧ (i' ≤ b → SortedIn ltInt a i' dk') ∧ (b < i' → a = b)) := fun hs q =>
          ⟨i + 1, m + q, dj, by go_num, by omega, by omega, by rw [HW2.out, rw_drewN]; exact rfl, HI.out.1, fun _ => HI.out.2.stop swo_ltInt hs, fun h => by omega⟩
        have OUT : Hid _ := out
        clear out
        go_wp2
        by_cases hja : a < j
        · go_quiet (first | (go_at_call 32; refine Calls.quiet_of_same (less _ _ _)))
          go_wp2
          · have hl : ltInt (G j) (G (j - 1)) = true := by assumption
            go_region
            all_goals go_wp2
            go_roundw
            case rel =>
              refine ⟨j - 1, m + (nq + 1), swp dj j (j - 1), by congr 1; omega, by omega, by omega, ?_, ?_⟩
              · show _ = _
                rw [HW2.out, rw_drewN, HG.out, HG.out]
                exact rw_swap _ _ _ _ _ _ _ (by rw [HS.out]; omega) (by rw [HS.out]; omega)
              · have h2 := HI.out.2
                rw [show j = (j - 1) + 1 by omega] at h2 ⊢
                refine ⟨permIn_trans _ _ _ _ _ HI.out.1 (swp_permIn _ _ _ _ _ (by omega) (by omega) (by omega) (by omega) (by rw [HS.out]; omega)), ?_⟩
                refine h2.step ?_ (by omega) (by rw [HS.out]; omega)
                rw [show (j - 1) + 1 = j by omega, ← HG.out, ← HG.out]; exact hl
            case measure => simp [natOf]; omega
          · have hl : ltInt (G j) (G (j - 1)) = false := by assumption
            go_roundw
            case rel => exact OUT.out (Or.inr (by rw [← HG.out, ← HG.out]; exact hl)) nq
            case measure => simp [natOf]; omega
        · go_quiet (first | (go_at_call 32; refine Calls.quiet_of_same (less _ _ _)))
          go_wp2
          go_roundw
          case rel => exact OUT.out (Or.inl (by omega)) nq
          case measure => simp [natOf]; omega
    · go_wp2
      go_end0
      refine ⟨rfl, n, dk, HW.out, HP.out.1, ?_⟩
      by_cases he : i = b
      · subst he; exact HP.out.2.1 (Nat.le_refl _)
      · have := HP.out.2.2 (by omega)
        intro p q h1 h2 h3; omega
end Go.Proofs.Ytfojpbbmicmooaa.SoIns

namespace Go.Proofs.Ytfojpbbmicmooaa.SoRev
open Go Go.RowKit Go.Sort SoKit

set_option maxHeartbeats 4000000 in
theorem rev_any (blk off cap a b N : Nat) (d : Array Int) (w : World) (hH : Holds E64 w blk off d) (hN : d.size = N) (hab : a ≤ b) (hb : b ≤ N) (hsz : N < 4611686018427387904) :
    Calls Try.prog 47 #[.slice (some ⟨blk, off, none⟩) N cap, .int .i64 (a : Int), .int .i64 (b : Int)] w fun e w' =>
      e = .returned (.tuple #[]) ∧ ∃ n d', w' = RW w blk off n d' ∧ PermIn a b d d' := by
  have HN : Hid (d.size = N) := hN
  clear hN
  have HH : Hid (Holds E64 w blk off d) := hH
  clear hH
  go_enter Try.func47, Try.ntmps47
  go_wp2
  go_loopw [6, 7] (fun vi vj wr => ∃ (i : Nat) (j : Int) (n : Nat) (dk : Array Int), vi = .int .i64 (i : Int) ∧ vj = .int .i64 j ∧ a ≤ i ∧ j < b ∧ -1 ≤ j ∧ i ≤ b ∧ Hid (wr = RW w blk off n dk) ∧ Hid (PermIn a b d dk)) (fun vi _ _ => b - natOf vi)
  case atStart => exact ⟨a, (b : Int) - 1, 0, d, by go_num, by go_num, by omega, by omega, by omega, by omega, (rw_self HH.out).symm, permIn_refl _ _ _⟩
  case round =>
    obtain ⟨i, jz, n, dk, rfl, rfl, hai, hjb, hj1, hib, HW, HP⟩ := hrel
    by_cases hlt : (i : Int) < jz
    · obtain ⟨j, rfl⟩ : ∃ j : Nat, jz = (j : Int) := ⟨jz.toNat, by omega⟩
      have hds : dk.size = d.size := HP.out.1
      obtain ⟨G, hc, hf, hg⟩ := rfam HH.out HN.out hds HW.out
      have HG : Hid (∀ t, G t = dk[t]!) := hg
      have HS : Hid (dk.size = N) := hds.trans HN.out
      clear hg hds
      go_wp2_with fail
      go_region
      all_goals go_wp2
      go_roundw
      case rel =>
        refine ⟨i + 1, (j : Int) - 1, n + 1, swp dk i j, by go_num, by go_num, by omega, by omega, by omega, by omega, ?_, ?_⟩
        · show _ = _
          rw [HW.out, HG.out, HG.out, rw_swap w blk off n dk i j (by rw [HS.out]; omega) (by rw [HS.out]; omega), rw_drew]
        · exact permIn_trans _ _ _ _ _ HP.out (swp_permIn _ _ _ _ _ (by omega) (by omega) (by omega) (by omega) (by rw [HS.out]; omega))
      case measure => simp [natOf]; omega
    · go_wp2
      go_end0
      exact ⟨rfl, n, dk, HW.out, HP.out⟩
end Go.Proofs.Ytfojpbbmicmooaa.SoRev

