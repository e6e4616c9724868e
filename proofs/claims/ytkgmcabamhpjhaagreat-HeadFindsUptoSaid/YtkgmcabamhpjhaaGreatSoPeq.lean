/- slices.Sort at uint64: partitionEqualOrdered. Conditions: those of the statement. -/
import Derived.Test.YtkgmcabamhpjhaaGreatSoKits
namespace Go.Proofs.YtkgmcabamhpjhaaGreat.SoPeq
open Go Go.RowKit Go.Sort SoKit

/-- The row on the way: the pivot at a, none greater up to i, all greater from j on. -/
structure Inv (a b : Nat) (P : Int) (d : Array Int) (i j : Nat) (dk : Array Int) : Prop where
  perm : PermIn a b d dk
  piv : dk[a]! = P
  low : ∀ t, a ≤ t → t < i → ltInt P dk[t]! = false
  high : ∀ t, j < t → t < b → ltInt P dk[t]! = true
theorem Inv.swap {a b i j N : Nat} {P : Int} {d dk : Array Int} (h : Inv a b P d i j dk) (hN : dk.size = N) (hb : b ≤ N) (hai : a < i) (hij : i < j) (hjb : j < b) (hi : ltInt P dk[i]! = true) (hj : ltInt P dk[j]! = false) : Inv a b P d (i + 1) (j - 1) (swp dk i j) := by
  refine ⟨permIn_trans _ _ _ _ _ h.perm (swp_permIn _ _ _ _ _ (by omega) (by omega) (by omega) (by omega) (by omega)), ?_, fun t h1 h2 => ?_, fun t h1 h2 => ?_⟩
  · rw [swp_other _ _ _ _ (by omega) (by omega)]; exact h.piv
  · by_cases e : t = i
    · subst e; rw [swp_left _ _ _ (by omega) (by omega)]; exact hj
    · rw [swp_other _ _ _ _ e (by omega)]; exact h.low t h1 (by omega)
  · by_cases e : t = j
    · subst e; rw [swp_right _ _ _ (by omega)]; exact hi
    · rw [swp_other _ _ _ _ (by omega) e]; exact h.high t (by omega) h2
theorem Inv.start {a b p N : Nat} {d : Array Int} (hN : d.size = N) (hb : b ≤ N) (h1 : a ≤ p) (h2 : p < b) : Inv a b d[p]! d (a + 1) (b - 1) (swp d a p) := by
  refine ⟨swp_permIn _ _ _ _ _ (by omega) (by omega) (by omega) (by omega) (by omega), ?_, fun t h3 h4 => ?_, fun t h3 h4 => by omega⟩
  · by_cases e : a = p
    · subst e; rw [swp_right _ _ _ (by omega)]
    · rw [swp_left _ _ _ (by omega) e]
  · obtain rfl : t = a := by omega
    have : (swp d t p)[t]! = d[p]! := by
      by_cases e : t = p
      · subst e; rw [swp_right _ _ _ (by omega)]
      · rw [swp_left _ _ _ (by omega) e]
    rw [this]; exact swo_ltInt.irrefl _

set_option maxHeartbeats 16000000 in
theorem peq_any (blk off cap a b p N : Nat) (d : Array Int) (w : World) (hH : Holds E64 w blk off d) (hN : d.size = N) (hap : a ≤ p) (hpb : p < b) (hb : b ≤ N) (hsz : N < 4611686018427387904) :
    Calls Tryz.prog 99 #[.slice (some ⟨blk, off, none⟩) N cap, .int .i64 (a : Int), .int .i64 (b : Int), .int .i64 (p : Int)] w fun e w' =>
      ∃ (mid n : Nat) (d' : Array Int), e = .returned (.int .i64 (mid : Int)) ∧ w' = RW w blk off n d' ∧ PermIn a b d d' ∧ a < mid ∧ mid ≤ b ∧ (∀ t, a ≤ t → t < mid → ltInt d[p]! d'[t]! = false) ∧ (∀ t, mid ≤ t → t < b → ltInt d[p]! d'[t]! = true) := by
  have HST : Hid (Inv a b d[p]! d (a + 1) (b - 1) (swp d a p)) := Inv.start hN hb hap hpb
  have HSW : Hid (∀ G : Nat → Int, (∀ t, G t = d[t]!) → (w.setCell ⟨blk, off + a, none⟩ (.int .u64 (G p))).setCell ⟨blk, off + p, none⟩ (.int .u64 (G a)) = RW w blk off 0 (swp d a p)) := fun G hG => by
    rw [hG, hG, ← rw_swap w blk off 0 d a p (by omega) (by omega), rw_self hH]
  obtain ⟨P, hP⟩ : ∃ P, P = d[p]! := ⟨_, rfl⟩
  rw [← hP]
  rw [← hP] at HST
  clear hP
  obtain ⟨D0, hD0⟩ : ∃ D0, D0 = swp d a p := ⟨_, rfl⟩
  rw [← hD0] at HST HSW
  clear hD0
  have HN : Hid (d.size = N) := hN
  obtain ⟨G0, hG0⟩ : ∃ G : Nat → Int, ∀ t, G t = d[t]! := ⟨fun t => d[t]!, fun _ => rfl⟩
  obtain ⟨hc0, hf0⟩ := rcells hH hN rfl (rw_self hH).symm hG0
  have HG0 : Hid _ := hG0
  clear hN hG0
  have HH : Hid (Holds E64 w blk off d) := hH
  clear hH
  go_enter Tryz.func99, Tryz.ntmps99
  go_wp2_with fail
  by_cases hpa : a = p
  case' pos => subst hpa
  all_goals
    go_region
    go_wp2_with fail
    generalize hwq : World.drew _ = wq
    have HQ : Hid (wq = RW w blk off 1 D0) := by show _ = _; rw [← hwq, HSW.out G0 HG0.out, rw_drew]
    clear hwq hc0 hf0
    go_loopw [9, 10] (fun vi vj wr => ∃ (i j n : Nat) (dk : Array Int), vi = .int .i64 (i : Int) ∧ vj = .int .i64 (j : Int) ∧ a < i ∧ i ≤ j + 1 ∧ j < b ∧ Hid (wr = RW w blk off n dk) ∧ Hid (Inv a b P d i j dk)) (fun vi vj _ => natOf vj + 1 - natOf vi)
    case atStart => exact ⟨a + 1, b - 1, 1, D0, by go_num, by congr 1; omega, by omega, by omega, by omega, HQ, HST⟩
    case round =>
      clear HQ HST HSW HG0
      obtain ⟨i, j, n, dk, rfl, rfl, hai, hij, hjb, HW, HI⟩ := hrel
      have hds : dk.size = d.size := HI.out.perm.1
      have HD : Hid (dk.size = d.size) := hds
      have HS : Hid (dk.size = N) := hds.trans HN.out
      clear hds
      obtain ⟨G, hG⟩ : ∃ G : Nat → Int, ∀ t, G t = dk[t]! := ⟨fun t => dk[t]!, fun _ => rfl⟩
      have HG : Hid (∀ t, G t = dk[t]!) := hG
      clear hG
      have HL : Hid (∀ t, a ≤ t → t < i → ltInt P (G t) = false) := fun t h1 h2 => by rw [HG.out]; exact HI.out.low t h1 h2
      have HR : Hid (∀ t, j < t → t < b → ltInt P (G t) = true) := fun t h1 h2 => by rw [HG.out]; exact HI.out.high t h1 h2
      have HA : Hid (G a = P) := by show _ = _; rw [HG.out]; exact HI.out.piv
      go_wp2_with fail
      go_loopw [9] (fun vi w1 => ∃ (i' n1 : Nat), vi = .int .i64 (i' : Int) ∧ i ≤ i' ∧ i' ≤ j + 1 ∧ Hid (w1 = RW w blk off n1 dk) ∧ Hid (∀ t, a ≤ t → t < i' → ltInt P (G t) = false)) (fun vi _ => j + 1 - natOf vi)
      case atStart => exact ⟨i, n, rfl, Nat.le_refl _, hij, HW, HL⟩
      case round =>
        clear HW HL
        obtain ⟨i', n1, rfl, hi1, hi2, HW, HL⟩ := hrel
        obtain ⟨hc, hf⟩ := rcells HH.out HN.out HD.out HW.out HG.out
        have haN : a < N := by omega
        by_cases hlt : i' ≤ j
        case' neg =>
          have hlf : decide ((i' : Int) ≤ (j : Int)) = false := decide_eq_false (by omega)
          have hlg : decide (i' ≤ j) = false := decide_eq_false hlt
        all_goals
          go_wp2_with fail
          go_quiet (first | (go_at_call 98; refine Calls.quiet_of_same (less _ _ _)))
          go_wp2_with fail
        all_goals first
          | (have hgo : ltInt (G a) (G i') = false := by simpa using ‹(!ltInt (G a) (G i')) = true›
             go_roundw
             case rel =>
               refine ⟨i' + 1, n1 + nq, by go_num, by omega, by omega, by show _ = _; rw [HW.out, rw_drewN], fun t h1 h2 => ?_⟩
               by_cases e : t = i'
               · subst e; rw [← HA.out]; exact hgo
               · exact HL.out t h1 (by omega)
             case measure => simp [natOf]; omega)
          | skip
        all_goals
          have hx : i' ≤ j → ltInt (G a) (G i') = true := fun h => by first | omega | simpa using ‹(!ltInt (G a) (G i')) = false›
          have HX : Hid _ := hx
          clear hx
          obtain ⟨n2, HW2⟩ : ∃ n2, Hid (wr.drewN nq = RW w blk off n2 dk) := ⟨n1 + nq, by show _ = _; rw [HW.out, rw_drewN]⟩
          clear hc hf HW
          generalize wr.drewN nq = wq at *
          go_loopw [10] (fun vj w2 => ∃ (j' n3 : Nat), vj = .int .i64 (j' : Int) ∧ j' ≤ j ∧ i' ≤ j' + 1 ∧ Hid (w2 = RW w blk off n3 dk) ∧ Hid (∀ t, j' < t → t < b → ltInt P (G t) = true)) (fun vj _ => natOf vj)
          case atStart => exact ⟨j, n2, rfl, Nat.le_refl _, hi2, HW2, HR⟩
          case round =>
            clear HW2 HR
            obtain ⟨j', n3, rfl, hj1, hj2, HW, HR⟩ := hrel
            obtain ⟨hc, hf⟩ := rcells HH.out HN.out HD.out HW.out HG.out
            by_cases hlt2 : i' ≤ j'
            case' neg =>
              have hlf : decide ((i' : Int) ≤ (j' : Int)) = false := decide_eq_false (by omega)
              have hlg : decide (i' ≤ j') = false := decide_eq_false hlt2
            all_goals
              go_wp2_with fail
              go_quiet (first | (go_at_call 98; refine Calls.quiet_of_same (less _ _ _)))
              go_wp2_with fail
            all_goals first
              | (have hgo : ltInt (G a) (G j') = true := by assumption
                 go_roundw
                 case rel =>
                   refine ⟨j' - 1, n3 + nq, by congr 1; omega, by omega, by omega, by show _ = _; rw [HW.out, rw_drewN], fun t h1 h2 => ?_⟩
                   by_cases e : t = j'
                   · subst e; rw [← HA.out]; exact hgo
                   · exact HR.out t (by omega) h2
                 case measure => simp [natOf]; omega)
              | skip
            all_goals
              have hy : i' ≤ j' → ltInt (G a) (G j') = false := fun h => by first | omega | assumption
              have HY : Hid _ := hy
              clear hy
              obtain ⟨n4, HW4⟩ : ∃ n4, Hid (wr.drewN nq = RW w blk off n4 dk) := ⟨n3 + nq, by show _ = _; rw [HW.out, rw_drewN]⟩
              obtain ⟨hc4, hf4⟩ := rcells HH.out HN.out HD.out HW4.out HG.out
              clear hc hf HW
              generalize wr.drewN nq = wq at *
              first
                | (go_ret
                   have hgt : ¬ i' ≤ j' := by omega
                   refine ⟨i', n4, dk, rfl, HW4.out, HI.out.perm, by omega, by omega, fun t h1 h2 => ?_, fun t h1 h2 => ?_⟩
                   · rw [← HG.out]; exact HL.out t h1 h2
                   · rw [← HG.out]; exact HR.out t (by omega) h2)
                | (have hne : i' < j' := by
                     rcases Nat.lt_or_ge i' j' with h | h
                     · exact h
                     · have e : i' = j' := by omega
                       subst e
                       have h1 := HX.out (by omega)
                       rw [HY.out (Nat.le_refl _)] at h1
                       cases h1
                   have hz : Inv a b P d (i' + 1) (j' - 1) (swp dk i' j') :=
                     Inv.swap ⟨HI.out.perm, HI.out.piv, fun t h1 h2 => by rw [← HG.out]; exact HL.out t h1 h2, fun t h1 h2 => by rw [← HG.out]; exact HR.out t h1 h2⟩ HS.out hb (by omega) hne (by omega)
                       (by rw [← HG.out, ← HA.out]; exact HX.out (by omega)) (by rw [← HG.out, ← HA.out]; exact HY.out (by omega))
                   have HZ : Hid _ := hz
                   clear hz
                   go_region
                   go_wp2_with fail
                   go_roundw
                   case rel =>
                     refine ⟨i' + 1, j' - 1, n4 + 1, swp dk i' j', by go_num, by congr 1; omega, by omega, by omega, by omega, ?_, HZ⟩
                     show _ = _
                     rw [HW4.out, HG.out, HG.out, rw_swap w blk off n4 dk i' j' (by rw [HS.out]; omega) (by rw [HS.out]; omega), rw_drew]
                   case measure => simp [natOf]; omega)
end Go.Proofs.YtkgmcabamhpjhaaGreat.SoPeq
