/- slices.Sort at uint64: partialInsertionSortOrdered permutes its part of the row, and where it answers true it is sorted. Conditions: those of the statement. -/
import Derived.Test.YtkgmcabamhpjhaaGreatSoKits
namespace Go.Proofs.YtkgmcabamhpjhaaGreat.SoPi
open Go Go.RowKit Go.Sort SoKit

/-- The row on the way: sorted up to i. -/
structure Inv (a b i : Nat) (d dk : Array Int) : Prop where
  perm : PermIn a b d dk
  low : SortedIn ltInt a i dk
theorem below_perm {a b N : Nat} {d dk : Array Int} (hN : d.size = N) (hb : b ≤ N) (h : Go.Sort.Below ltInt a b d) (hp : PermIn a b d dk) : Go.Sort.Below ltInt a b dk := h.permA permIn_all (by omega) hp

set_option maxHeartbeats 64000000 in
set_option maxRecDepth 100000 in
theorem pi_any (blk off cap a b N : Nat) (d : Array Int) (w : World) (hH : Holds E64 w blk off d) (hN : d.size = N) (hab : a < b) (hb : b ≤ N) (hsz : N < 4611686018427387904) (hB : Go.Sort.Below ltInt a b d) :
    Calls Tryz.prog 97 #[.slice (some ⟨blk, off, none⟩) N cap, .int .i64 (a : Int), .int .i64 (b : Int)] w fun e w' =>
      ∃ (q : Bool) (n : Nat) (d' : Array Int), e = .returned (.bool q) ∧ w' = RW w blk off n d' ∧ PermIn a b d d' ∧ (q = true → SortedIn ltInt a b d') := by
  have HN : Hid (d.size = N) := hN
  have HB : Hid (∀ dk, PermIn a b d dk → Go.Sort.Below ltInt a b dk) := fun dk hp => below_perm hN hb hB hp
  clear hN hB
  have HH : Hid (Holds E64 w blk off d) := hH
  clear hH
  go_enter Tryz.func97, Tryz.ntmps97
  go_wp2
  go_loopw [7, 8] (fun vi vs wr => ∃ (i s n : Nat) (dk : Array Int), vi = .int .i64 (i : Int) ∧ vs = .int .i64 (s : Int) ∧ s ≤ 5 ∧ a < i ∧ i ≤ b ∧ Hid (wr = RW w blk off n dk) ∧ Hid (Inv a b i d dk)) (fun _ vs _ => 5 - natOf vs)
  case atStart => exact ⟨a + 1, 0, 0, d, by go_num, rfl, by omega, by omega, by omega, (rw_self HH.out).symm, permIn_refl _ _ _, fun i j h1 h2 h3 => by omega⟩
  case round =>
    obtain ⟨i, s, n, dk, rfl, rfl, hs, hai, hib, HW, HI⟩ := hrel
    by_cases hs5 : s < 5
    · have hds : dk.size = d.size := HI.out.perm.1
      have HD : Hid (dk.size = d.size) := hds
      have HS : Hid (dk.size = N) := hds.trans HN.out
      clear hds
      obtain ⟨G, hG⟩ : ∃ G : Nat → Int, ∀ t, G t = dk[t]! := ⟨fun t => dk[t]!, fun _ => rfl⟩
      have HG : Hid (∀ t, G t = dk[t]!) := hG
      clear hG
      go_wp2_with fail
      go_loopw [7] (fun vi w1 => ∃ (i' n1 : Nat), vi = .int .i64 (i' : Int) ∧ i ≤ i' ∧ i' ≤ b ∧ Hid (w1 = RW w blk off n1 dk) ∧ Hid (Inv a b i' d dk)) (fun vi _ => b - natOf vi)
      case atStart => exact ⟨i, n, rfl, Nat.le_refl _, hib, HW, HI⟩
      case round =>
        clear HW HI
        obtain ⟨i', n1, rfl, hi1, hi2, HW, HI⟩ := hrel
        obtain ⟨hc, hf⟩ := rcells HH.out HN.out HD.out HW.out HG.out
        have haN : a < N := by omega
        by_cases hlt : i' < b
        case' neg =>
          have hlf : decide ((i' : Int) < (b : Int)) = false := decide_eq_false (by omega)
          have hlg : decide (i' < b) = false := decide_eq_false hlt
        all_goals
          go_wp2_with fail
          go_quiet (first | (go_at_call 98; refine Calls.quiet_of_same (less _ _ _)))
          go_wp2_with fail
        all_goals first
          | (have hgo : ltInt (G i') (G (i' - 1)) = false := by simpa using ‹(!ltInt (G i') (G (i' - 1))) = true›
             go_roundw
             case rel =>
               refine ⟨i' + 1, n1 + nq, by go_num, by omega, by omega, by show _ = _; rw [HW.out, rw_drewN], HI.out.perm, ?_⟩
               rw [HG.out, HG.out] at hgo
               exact SortedIn.snoc swo_ltInt HI.out.low hgo
             case measure => simp [natOf]; omega)
          | skip
        all_goals first
          | (go_ret
             have hib' : i' = b := by omega
             exact ⟨true, n1 + nq, dk, rfl, by rw [HW.out, rw_drewN], HI.out.perm, fun _ => hib' ▸ HI.out.low⟩)
          | (go_ret
             exact ⟨false, n1 + nq, dk, rfl, by rw [HW.out, rw_drewN], HI.out.perm, fun h => by cases h⟩)
          | skip
        obtain ⟨n2, HW2⟩ : ∃ n2, Hid (wr.drewN nq = RW w blk off n2 dk) := ⟨n1 + nq, by show _ = _; rw [HW.out, rw_drewN]⟩
        have hlt' : i' < b := by assumption
        have HSW : Hid (((RW w blk off n2 dk).setCell ⟨blk, off + i', none⟩ (.int .u64 (G (i' - 1)))).setCell ⟨blk, off + (i' - 1), none⟩ (.int .u64 (G i')) = RW w blk off n2 (swp dk i' (i' - 1))) := by show _ = _; rw [HG.out, HG.out]; exact rw_swap w blk off n2 dk i' (i' - 1) (by rw [HS.out]; omega) (by rw [HS.out]; omega)
        have hi0 : SortedIn ltInt a (i' - 1) (swp dk i' (i' - 1)) := fun p q h1 h2 h3 => by
          rw [swp_other _ _ _ _ (by omega) (by omega), swp_other _ _ _ _ (by omega) (by omega)]
          exact HI.out.low p q h1 h2 (by omega)
        have HP0 : Hid (PermIn a b d (swp dk i' (i' - 1)) ∧ SortedIn ltInt a (i' - 1) (swp dk i' (i' - 1))) := ⟨permIn_trans _ _ _ _ _ HI.out.perm (swp_permIn _ _ _ _ _ (by omega) (by omega) (by omega) (by omega) (by rw [HS.out]; exact hb)), hi0⟩
        clear hi0 HW
        obtain ⟨hc2, hf2⟩ := rcells HH.out HN.out HD.out HW2.out HG.out
        clear hc hf
        generalize wr.drewN nq = wq at *
        go_region
        go_wp2_with fail
        all_goals
          generalize hwz : World.drew _ = wl
          obtain ⟨nl, dl, HWl, HP1⟩ : ∃ nl dl, Hid (wl = RW w blk off nl dl) ∧ Hid (PermIn a b d dl ∧ SortedIn ltInt a (i' - 1) dl) := ⟨n2 + 1, _, (by show _ = _; rw [← hwz, HW2.out, HSW.out, rw_drew]), HP0⟩
          clear hwz HSW hc2 hf2 HW2 HP0 HI HG HD HS
          have HP0 := HP1
          clear HP1
        · skip
          go_loopw [9] (fun vj w3 => ∃ (j m : Nat) (dj : Array Int), vj = .int .i64 (j : Int) ∧ a ≤ j ∧ j ≤ i' - 1 ∧ Hid (w3 = RW w blk off m dj) ∧ Hid (PermIn a b d dj ∧ Ins ltInt a j (i' - 1) dj)) (fun vj _ => natOf vj)
          case atStart => exact ⟨i' - 1, nl, dl, by congr 1; omega, by omega, by omega, HWl, HP0.out.1, fun p q h1 h2 h3 h4 h5 => HP0.out.2 p q h1 h2 (by omega), fun q h1 h2 => by omega⟩
          case round =>
            clear HWl HP0
            obtain ⟨j, m, dj, rfl, hj1, hj2, HWl, HIl⟩ := hrel
            have hdj : dj.size = d.size := HIl.out.1.1
            obtain ⟨Gj, hGj⟩ : ∃ G : Nat → Int, ∀ t, G t = dj[t]! := ⟨fun t => dj[t]!, fun _ => rfl⟩
            obtain ⟨hc, hf⟩ := rcells HH.out HN.out hdj HWl.out hGj
            have HGj : Hid _ := hGj
            have HDj : Hid (dj.size = N) := hdj.trans HN.out
            clear hGj hdj
            have hjN : j < N := by omega
            by_cases hj0 : 1 ≤ j
            · go_wp2_with fail
              go_quiet (first | (go_at_call 98; refine Calls.quiet_of_same (less _ _ _)))
              go_wp2_with fail
              all_goals first
                | (have hl : ltInt (Gj j) (Gj (j - 1)) = true := by simpa using ‹(!ltInt (Gj j) (Gj (j - 1))) = false›
                   have hja : a < j := by
                     rcases Nat.eq_or_lt_of_le hj1 with h | h
                     · exfalso
                       subst h
                       rw [HGj.out, HGj.out] at hl
                       rcases HB.out dj HIl.out.1 with hB | hB
                       · omega
                       · rw [hB a (Nat.le_refl _) hab] at hl; cases hl
                     · exact h
                   obtain ⟨nl, HWm⟩ : ∃ nl, Hid (wr.drewN nq = RW w blk off nl dj) := ⟨m + nq, by show _ = _; rw [HWl.out, rw_drewN]⟩
                   have HSj : Hid (((RW w blk off nl dj).setCell ⟨blk, off + j, none⟩ (.int .u64 (Gj (j - 1)))).setCell ⟨blk, off + (j - 1), none⟩ (.int .u64 (Gj j)) = RW w blk off nl (swp dj j (j - 1))) := by show _ = _; rw [HGj.out, HGj.out]; exact rw_swap w blk off nl dj j (j - 1) (by rw [HDj.out]; omega) (by rw [HDj.out]; omega)
                   have HIm : Hid (PermIn a b d (swp dj j (j - 1)) ∧ Ins ltInt a (j - 1) (i' - 1) (swp dj j (j - 1))) := by
                     have h2 := HIl.out.2
                     rw [show j = (j - 1) + 1 by omega] at h2
                     refine ⟨permIn_trans _ _ _ _ _ HIl.out.1 (swp_permIn _ _ _ _ _ (by omega) (by omega) (by omega) (by omega) (by rw [HDj.out]; exact hb)), ?_⟩
                     have h3 := h2.step (by rw [show (j - 1) + 1 = j by omega, ← HGj.out, ← HGj.out]; exact hl) (by omega) (by rw [HDj.out]; omega)
                     rwa [show (j - 1) + 1 = j by omega] at h3
                   obtain ⟨hc3, hf3⟩ := rcells HH.out HN.out (HDj.out.trans HN.out.symm) HWm.out HGj.out
                   clear hc hf
                   generalize wr.drewN nq = wz at *
                   go_region
                   go_wp2_with fail
                   go_roundw
                   case rel =>
                     refine ⟨j - 1, nl + 1, _, by congr 1; omega, by omega, by omega, ?_, HIm⟩
                     show _ = _
                     rw [HWm.out, HSj.out, rw_drew]
                   case measure => simp [natOf]; omega)
                | skip
              all_goals
                have hstop : Inv a b i' d dj := by
                  refine ⟨HIl.out.1, ?_⟩
                  have h3 := HIl.out.2.stop swo_ltInt (Or.inr (by rw [← HGj.out, ← HGj.out]; simpa using ‹(!ltInt (Gj j) (Gj (j - 1))) = true›))
                  rwa [show i' - 1 + 1 = i' by omega] at h3
                obtain ⟨nl, HWm⟩ : ∃ nl, Hid (wr.drewN nq = RW w blk off nl dj) := ⟨m + nq, by show _ = _; rw [HWl.out, rw_drewN]⟩
                obtain ⟨dl, HIm, HWn⟩ : ∃ dl, Hid (Inv a b i' d dl) ∧ Hid (wr.drewN nq = RW w blk off nl dl) := ⟨dj, hstop, HWm⟩
                clear hstop HWm HIl HWl hc hf HGj HDj
                have HWl := HWn
                have HIl := HIm
                clear HWn HIm
                generalize wr.drewN nq = wz at *
                first
                  | (go_roundw
                     case rel => exact ⟨i', s + 1, nl, dl, rfl, by go_num, by omega, by omega, by omega, HWl, HIl⟩
                     case measure => (simp [natOf]; omega)
                     done)
                  | skip
              all_goals
                go_loopw [10] (fun vj w3 => ∃ (j m : Nat) (dj : Array Int), vj = .int .i64 (j : Int) ∧ i' + 1 ≤ j ∧ j ≤ b ∧ Hid (w3 = RW w blk off m dj) ∧ Hid (Inv a b i' d dj)) (fun vj _ => b - natOf vj)
                case atStart => exact ⟨i' + 1, nl, dl, by go_num, by omega, by omega, HWl, HIl⟩
                case round =>
                  clear HWl HIl
                  obtain ⟨j, m, dj, rfl, hj1, hj2, HWl, HIl⟩ := hrel
                  have hdj : dj.size = d.size := HIl.out.perm.1
                  obtain ⟨Gj, hGj⟩ : ∃ G : Nat → Int, ∀ t, G t = dj[t]! := ⟨fun t => dj[t]!, fun _ => rfl⟩
                  obtain ⟨hc, hf⟩ := rcells HH.out HN.out hdj HWl.out hGj
                  have HGj : Hid _ := hGj
                  have HDj : Hid (dj.size = N) := hdj.trans HN.out
                  clear hGj hdj
                  by_cases hjb : j < b
                  · go_wp2_with fail
                    go_quiet (first | (go_at_call 98; refine Calls.quiet_of_same (less _ _ _)))
                    go_wp2_with fail
                    · obtain ⟨nl, HWm⟩ : ∃ nl, Hid (wr.drewN nq = RW w blk off nl dj) := ⟨m + nq, by show _ = _; rw [HWl.out, rw_drewN]⟩
                      go_roundw
                      case rel => exact ⟨i', s + 1, nl, dj, rfl, by go_num, by omega, by omega, by omega, HWm, HIl⟩
                      case measure => simp [natOf]; omega
                    · obtain ⟨nl, HWm⟩ : ∃ nl, Hid (wr.drewN nq = RW w blk off nl dj) := ⟨m + nq, by show _ = _; rw [HWl.out, rw_drewN]⟩
                      have HSj : Hid (((RW w blk off nl dj).setCell ⟨blk, off + j, none⟩ (.int .u64 (Gj (j - 1)))).setCell ⟨blk, off + (j - 1), none⟩ (.int .u64 (Gj j)) = RW w blk off nl (swp dj j (j - 1))) := by show _ = _; rw [HGj.out, HGj.out]; exact rw_swap w blk off nl dj j (j - 1) (by rw [HDj.out]; omega) (by rw [HDj.out]; omega)
                      have HIm : Hid (Inv a b i' d (swp dj j (j - 1))) := ⟨permIn_trans _ _ _ _ _ HIl.out.perm (swp_permIn _ _ _ _ _ (by omega) (by omega) (by omega) (by omega) (by rw [HDj.out]; exact hb)), fun p q h1 h2 h3 => by
                        rw [swp_other _ _ _ _ (by omega) (by omega), swp_other _ _ _ _ (by omega) (by omega)]
                        exact HIl.out.low p q h1 h2 (by omega)⟩
                      obtain ⟨hc3, hf3⟩ := rcells HH.out HN.out (HDj.out.trans HN.out.symm) HWm.out HGj.out
                      clear hc hf
                      generalize wr.drewN nq = wz at *
                      go_region
                      go_wp2_with fail
                      go_roundw
                      case rel =>
                        refine ⟨j + 1, nl + 1, _, by go_num, by omega, by omega, ?_, HIm⟩
                        show _ = _
                        rw [HWm.out, HSj.out, rw_drew]
                      case measure => simp [natOf]; omega
                  · go_wp2_with fail
                    go_roundw
                    case rel => exact ⟨i', s + 1, m, dj, rfl, by go_num, by omega, by omega, by omega, HWl, HIl⟩
                    case measure => simp [natOf]; omega
            · have hstop : Inv a b i' d dj := by
                refine ⟨HIl.out.1, ?_⟩
                have h3 := HIl.out.2.stop swo_ltInt (Or.inl (by omega))
                rwa [show i' - 1 + 1 = i' by omega] at h3
              obtain ⟨nl, dl, HIm, HWn⟩ : ∃ nl dl, Hid (Inv a b i' d dl) ∧ Hid (wr = RW w blk off nl dl) := ⟨m, dj, hstop, HWl⟩
              clear hstop HIl HWl hc hf HGj HDj
              have HWl := HWn
              have HIl := HIm
              clear HWn HIm
              go_wp2_with fail
              all_goals first
                | (go_roundw
                   case rel => exact ⟨i', s + 1, nl, dl, rfl, by go_num, by omega, by omega, by omega, HWl, HIl⟩
                   case measure => (simp [natOf]; omega)
                   done)
                | skip
              all_goals
                go_loopw [10] (fun vj w3 => ∃ (j m : Nat) (dj : Array Int), vj = .int .i64 (j : Int) ∧ i' + 1 ≤ j ∧ j ≤ b ∧ Hid (w3 = RW w blk off m dj) ∧ Hid (Inv a b i' d dj)) (fun vj _ => b - natOf vj)
                case atStart => exact ⟨i' + 1, nl, dl, by go_num, by omega, by omega, HWl, HIl⟩
                case round =>
                  clear HWl HIl
                  obtain ⟨j, m, dj, rfl, hj1, hj2, HWl, HIl⟩ := hrel
                  have hdj : dj.size = d.size := HIl.out.perm.1
                  obtain ⟨Gj, hGj⟩ : ∃ G : Nat → Int, ∀ t, G t = dj[t]! := ⟨fun t => dj[t]!, fun _ => rfl⟩
                  obtain ⟨hc, hf⟩ := rcells HH.out HN.out hdj HWl.out hGj
                  have HGj : Hid _ := hGj
                  have HDj : Hid (dj.size = N) := hdj.trans HN.out
                  clear hGj hdj
                  by_cases hjb : j < b
                  · go_wp2_with fail
                    go_quiet (first | (go_at_call 98; refine Calls.quiet_of_same (less _ _ _)))
                    go_wp2_with fail
                    · obtain ⟨nl, HWm⟩ : ∃ nl, Hid (wr.drewN nq = RW w blk off nl dj) := ⟨m + nq, by show _ = _; rw [HWl.out, rw_drewN]⟩
                      go_roundw
                      case rel => exact ⟨i', s + 1, nl, dj, rfl, by go_num, by omega, by omega, by omega, HWm, HIl⟩
                      case measure => simp [natOf]; omega
                    · obtain ⟨nl, HWm⟩ : ∃ nl, Hid (wr.drewN nq = RW w blk off nl dj) := ⟨m + nq, by show _ = _; rw [HWl.out, rw_drewN]⟩
                      have HSj : Hid (((RW w blk off nl dj).setCell ⟨blk, off + j, none⟩ (.int .u64 (Gj (j - 1)))).setCell ⟨blk, off + (j - 1), none⟩ (.int .u64 (Gj j)) = RW w blk off nl (swp dj j (j - 1))) := by show _ = _; rw [HGj.out, HGj.out]; exact rw_swap w blk off nl dj j (j - 1) (by rw [HDj.out]; omega) (by rw [HDj.out]; omega)
                      have HIm : Hid (Inv a b i' d (swp dj j (j - 1))) := ⟨permIn_trans _ _ _ _ _ HIl.out.perm (swp_permIn _ _ _ _ _ (by omega) (by omega) (by omega) (by omega) (by rw [HDj.out]; exact hb)), fun p q h1 h2 h3 => by
                        rw [swp_other _ _ _ _ (by omega) (by omega), swp_other _ _ _ _ (by omega) (by omega)]
                        exact HIl.out.low p q h1 h2 (by omega)⟩
                      obtain ⟨hc3, hf3⟩ := rcells HH.out HN.out (HDj.out.trans HN.out.symm) HWm.out HGj.out
                      clear hc hf
                      generalize wr.drewN nq = wz at *
                      go_region
                      go_wp2_with fail
                      go_roundw
                      case rel =>
                        refine ⟨j + 1, nl + 1, _, by go_num, by omega, by omega, ?_, HIm⟩
                        show _ = _
                        rw [HWm.out, HSj.out, rw_drew]
                      case measure => simp [natOf]; omega
                  · go_wp2_with fail
                    go_roundw
                    case rel => exact ⟨i', s + 1, m, dj, rfl, by go_num, by omega, by omega, by omega, HWl, HIl⟩
                    case measure => simp [natOf]; omega
        · have HIl : Hid (Inv a b i' d dl) := ⟨HP0.out.1, fun p q h1 h2 h3 => by omega⟩
          go_loopw [10] (fun vj w3 => ∃ (j m : Nat) (dj : Array Int), vj = .int .i64 (j : Int) ∧ i' + 1 ≤ j ∧ j ≤ b ∧ Hid (w3 = RW w blk off m dj) ∧ Hid (Inv a b i' d dj)) (fun vj _ => b - natOf vj)
          case atStart => exact ⟨i' + 1, nl, dl, by go_num, by omega, by omega, HWl, HIl⟩
          case round =>
            clear HWl HIl
            obtain ⟨j, m, dj, rfl, hj1, hj2, HWl, HIl⟩ := hrel
            have hdj : dj.size = d.size := HIl.out.perm.1
            obtain ⟨Gj, hGj⟩ : ∃ G : Nat → Int, ∀ t, G t = dj[t]! := ⟨fun t => dj[t]!, fun _ => rfl⟩
            obtain ⟨hc, hf⟩ := rcells HH.out HN.out hdj HWl.out hGj
            have HGj : Hid _ := hGj
            have HDj : Hid (dj.size = N) := hdj.trans HN.out
            clear hGj hdj
            by_cases hjb : j < b
            · go_wp2_with fail
              go_quiet (first | (go_at_call 98; refine Calls.quiet_of_same (less _ _ _)))
              go_wp2_with fail
              · obtain ⟨nl, HWm⟩ : ∃ nl, Hid (wr.drewN nq = RW w blk off nl dj) := ⟨m + nq, by show _ = _; rw [HWl.out, rw_drewN]⟩
                go_roundw
                case rel => exact ⟨i', s + 1, nl, dj, rfl, by go_num, by omega, by omega, by omega, HWm, HIl⟩
                case measure => simp [natOf]; omega
              · obtain ⟨nl, HWm⟩ : ∃ nl, Hid (wr.drewN nq = RW w blk off nl dj) := ⟨m + nq, by show _ = _; rw [HWl.out, rw_drewN]⟩
                have HSj : Hid (((RW w blk off nl dj).setCell ⟨blk, off + j, none⟩ (.int .u64 (Gj (j - 1)))).setCell ⟨blk, off + (j - 1), none⟩ (.int .u64 (Gj j)) = RW w blk off nl (swp dj j (j - 1))) := by show _ = _; rw [HGj.out, HGj.out]; exact rw_swap w blk off nl dj j (j - 1) (by rw [HDj.out]; omega) (by rw [HDj.out]; omega)
                have HIm : Hid (Inv a b i' d (swp dj j (j - 1))) := ⟨permIn_trans _ _ _ _ _ HIl.out.perm (swp_permIn _ _ _ _ _ (by omega) (by omega) (by omega) (by omega) (by rw [HDj.out]; exact hb)), fun p q h1 h2 h3 => by
                  rw [swp_other _ _ _ _ (by omega) (by omega), swp_other _ _ _ _ (by omega) (by omega)]
                  exact HIl.out.low p q h1 h2 (by omega)⟩
                obtain ⟨hc3, hf3⟩ := rcells HH.out HN.out (HDj.out.trans HN.out.symm) HWm.out HGj.out
                clear hc hf
                generalize wr.drewN nq = wz at *
                go_region
                go_wp2_with fail
                go_roundw
                case rel =>
                  refine ⟨j + 1, nl + 1, _, by go_num, by omega, by omega, ?_, HIm⟩
                  show _ = _
                  rw [HWm.out, HSj.out, rw_drew]
                case measure => simp [natOf]; omega
            · go_wp2_with fail
              go_roundw
              case rel => exact ⟨i', s + 1, m, dj, rfl, by go_num, by omega, by omega, by omega, HWl, HIl⟩
              case measure => simp [natOf]; omega
    · go_wp2
      go_ret
      exact ⟨false, n, dk, rfl, HW.out, HI.out.perm, fun h => by cases h⟩
end Go.Proofs.YtkgmcabamhpjhaaGreat.SoPi
