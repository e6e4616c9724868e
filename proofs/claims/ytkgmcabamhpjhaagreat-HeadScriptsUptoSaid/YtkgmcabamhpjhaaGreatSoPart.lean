/- slices.Sort at uint64: partitionOrdered. Conditions: those of the statement. -/
import Derived.Test.YtkgmcabamhpjhaaGreatSoKits
namespace Go.Proofs.YtkgmcabamhpjhaaGreat.SoPart
open Go Go.RowKit Go.Sort SoKit

/-- The row on the way: the pivot at a, less up to i, none less from j on. -/
structure Inv (a b : Nat) (P : Int) (d : Array Int) (i j : Nat) (dk : Array Int) : Prop where
  perm : PermIn a b d dk
  piv : dk[a]! = P
  low : ∀ t, a < t → t < i → ltInt dk[t]! P = true
  high : ∀ t, j < t → t < b → ltInt dk[t]! P = false
/-- The row at the end. -/
structure Fin (a b : Nat) (P : Int) (d : Array Int) (mid : Nat) (d' : Array Int) : Prop where
  ge : a ≤ mid
  lt : mid < b
  perm : PermIn a b d d'
  piv : d'[mid]! = P
  low : ∀ t, a ≤ t → t < mid → ltInt d'[t]! P = true
  high : ∀ t, mid < t → t < b → ltInt d'[t]! P = false
theorem Inv.swap {a b i j N : Nat} {P : Int} {d dk : Array Int} (h : Inv a b P d i j dk) (hN : dk.size = N) (hb : b ≤ N) (hai : a < i) (hij : i < j) (hjb : j < b) (hi : ltInt dk[i]! P = false) (hj : ltInt dk[j]! P = true) : Inv a b P d (i + 1) (j - 1) (swp dk i j) := by
  refine ⟨permIn_trans _ _ _ _ _ h.perm (swp_permIn _ _ _ _ _ (by omega) (by omega) (by omega) (by omega) (by omega)), ?_, fun t h1 h2 => ?_, fun t h1 h2 => ?_⟩
  · rw [swp_other _ _ _ _ (by omega) (by omega)]; exact h.piv
  · by_cases e : t = i
    · subst e; rw [swp_left _ _ _ (by omega) (by omega)]; exact hj
    · rw [swp_other _ _ _ _ e (by omega)]; exact h.low t h1 (by omega)
  · by_cases e : t = j
    · subst e; rw [swp_right _ _ _ (by omega)]; exact hi
    · rw [swp_other _ _ _ _ (by omega) e]; exact h.high t (by omega) h2
theorem Inv.start {a b p N : Nat} {d : Array Int} (hN : d.size = N) (hb : b ≤ N) (h1 : a ≤ p) (h2 : p < b) : Inv a b d[p]! d (a + 1) (b - 1) (swp d a p) := by
  refine ⟨swp_permIn _ _ _ _ _ (by omega) (by omega) (by omega) (by omega) (by omega), ?_, fun t h3 h4 => by omega, fun t h3 h4 => by omega⟩
  by_cases e : a = p
  · subst e; rw [swp_right _ _ _ (by omega)]
  · rw [swp_left _ _ _ (by omega) e]
theorem Inv.fin {a b i j N : Nat} {P : Int} {d dk : Array Int} (h : Inv a b P d i j dk) (hN : dk.size = N) (hb : b ≤ N) (hij : i = j + 1) (haj : a ≤ j) (hjb : j < b) : Fin a b P d j (swp dk j a) := by
  refine ⟨haj, hjb, permIn_trans _ _ _ _ _ h.perm (swp_permIn _ _ _ _ _ (by omega) (by omega) (by omega) (by omega) (by omega)), ?_, fun t h1 h2 => ?_, fun t h1 h2 => ?_⟩
  · by_cases e : j = a
    · subst e; rw [swp_right _ _ _ (by omega)]; exact h.piv
    · rw [swp_left _ _ _ (by omega) e]; exact h.piv
  · by_cases e : t = a
    · subst e; rw [swp_right _ _ _ (by omega)]; exact h.low j (by omega) (by omega)
    · rw [swp_other _ _ _ _ (by omega) e]; exact h.low t (by omega) (by omega)
  · rw [swp_other _ _ _ _ (by omega) (by omega)]; exact h.high t h1 h2

set_option maxHeartbeats 64000000 in
set_option maxRecDepth 100000 in
theorem part_any (blk off cap a b p N : Nat) (d : Array Int) (w : World) (hH : Holds E64 w blk off d) (hN : d.size = N) (hap : a ≤ p) (hpb : p < b) (hb : b ≤ N) (hsz : N < 4611686018427387904) :
    Calls Tryz.prog 100 #[.slice (some ⟨blk, off, none⟩) N cap, .int .i64 (a : Int), .int .i64 (b : Int), .int .i64 (p : Int)] w fun e w' =>
      ∃ (mid : Nat) (ap : Bool) (n : Nat) (d' : Array Int), e = .returned (.tuple #[.int .i64 (mid : Int), .bool ap]) ∧ w' = RW w blk off n d' ∧ Fin a b d[p]! d mid d' := by
  have HST : Hid (Inv a b d[p]! d (a + 1) (b - 1) (swp d a p)) := Inv.start hN hb hap hpb
  have HSW : Hid (∀ G : Nat → Int, (∀ t, G t = d[t]!) → (w.setCell ⟨blk, off + a, none⟩ (.int .u64 (G p))).setCell ⟨blk, off + p, none⟩ (.int .u64 (G a)) = RW w blk off 0 (swp d a p)) := fun G hG => by
    rw [hG, hG, ← rw_swap w blk off 0 d a p (by omega) (by omega), rw_self hH]
  obtain ⟨P, hP⟩ : ∃ P, P = d[p]! := ⟨_, rfl⟩
  rw [← hP]
  rw [← hP] at HST
  clear hP
  obtain ⟨dk, hD0⟩ : ∃ D0, D0 = swp d a p := ⟨_, rfl⟩
  rw [← hD0] at HST HSW
  clear hD0
  have HN : Hid (d.size = N) := hN
  obtain ⟨G0, hG0⟩ : ∃ G : Nat → Int, ∀ t, G t = d[t]! := ⟨fun t => d[t]!, fun _ => rfl⟩
  obtain ⟨hc0, hf0⟩ := rcells hH hN rfl (rw_self hH).symm hG0
  have HG0 : Hid _ := hG0
  clear hN hG0
  have HH : Hid (Holds E64 w blk off d) := hH
  clear hH
  obtain ⟨j, hj⟩ : ∃ j, j = b - 1 := ⟨_, rfl⟩
  have ej : (b : Int) - 1 = (j : Int) := by omega
  rw [← hj] at HST
  have hjb : j < b := by omega
  have hij : a + 1 ≤ j + 1 := by omega
  clear hj
  go_enter Tryz.func100, Tryz.ntmps100
  go_wp2_with fail
  by_cases hpa : a = p
  case' pos => subst hpa
  all_goals
    go_region
    go_wp2_with fail
    generalize hwq : World.drew _ = wq
    have HW : Hid (wq = RW w blk off 1 dk) := by show _ = _; rw [← hwq, HSW.out G0 HG0.out, rw_drew]
    clear hwq hc0 hf0
    have HI : Hid (Inv a b P d (a + 1) j dk) := HST
    clear HST HSW
    obtain ⟨n, hn⟩ : ∃ n, n = 1 := ⟨1, rfl⟩
    rw [← hn] at HW
    clear hn
    obtain ⟨i, hi⟩ : ∃ i, i = a + 1 := ⟨_, rfl⟩
    rw [show (a : Int) + 1 = ((i : Nat) : Int) by omega]
    rw [← hi] at HI hij
    have hai : a < i := by omega
    clear hi
    have hds : dk.size = d.size := HI.out.perm.1
    have HD : Hid (dk.size = d.size) := hds
    have HS : Hid (dk.size = N) := hds.trans HN.out
    clear hds
    obtain ⟨G, hG⟩ : ∃ G : Nat → Int, ∀ t, G t = dk[t]! := ⟨fun t => dk[t]!, fun _ => rfl⟩
    have HG : Hid (∀ t, G t = dk[t]!) := hG
    clear hG
    have HL : Hid (∀ t, a < t → t < i → ltInt (G t) P = true) := fun t h1 h2 => by rw [HG.out]; exact HI.out.low t h1 h2
    have HR : Hid (∀ t, j < t → t < b → ltInt (G t) P = false) := fun t h1 h2 => by rw [HG.out]; exact HI.out.high t h1 h2
    have HA : Hid (G a = P) := by show _ = _; rw [HG.out]; exact HI.out.piv
    go_loopw [10] (fun vi w1 => ∃ (i' n1 : Nat), vi = .int .i64 (i' : Int) ∧ i ≤ i' ∧ i' ≤ j + 1 ∧ Hid (w1 = RW w blk off n1 dk) ∧ Hid (∀ t, a < t → t < i' → ltInt (G t) P = true)) (fun vi _ => j + 1 - natOf vi)
    case atStart => exact ⟨i, n, rfl, Nat.le_refl _, hij, HW, HL⟩
    case round =>
      clear HW HL
      obtain ⟨i', n1, rfl, hi1, hi2, HW, HL⟩ := hrel
      obtain ⟨hc, hf⟩ := rcells HH.out HN.out HD.out HW.out HG.out
      have haN : a < N := by omega
      by_cases hlt : i' ≤ j
      case' neg =>
        have hlf : decide ((i' : Int) ≤ (j : Int)) = false := decide_eq_false (by omega)
        have hlg : decide (i' ≤ j) = false := decide_eq_false hlt
      all_goals
        go_wp2_with fail
        go_quiet (first | (go_at_call 98; refine Calls.quiet_of_same (less _ _ _)))
        go_wp2_with fail
      all_goals first
        | (have hgo : ltInt (G i') (G a) = true := by assumption
           go_roundw
           case rel =>
             refine ⟨i' + 1, n1 + nq, by go_num, by omega, by omega, by show _ = _; rw [HW.out, rw_drewN], fun t h1 h2 => ?_⟩
             by_cases e : t = i'
             · subst e; rw [← HA.out]; exact hgo
             · exact HL.out t h1 (by omega)
           case measure => simp [natOf]; omega)
        | skip
      all_goals
        have hx : i' ≤ j → ltInt (G i') (G a) = false := fun h => by first | omega | assumption
        have HX : Hid _ := hx
        clear hx
        obtain ⟨n2, HW2⟩ : ∃ n2, Hid (wr.drewN nq = RW w blk off n2 dk) := ⟨n1 + nq, by show _ = _; rw [HW.out, rw_drewN]⟩
        clear hc hf HW
        generalize wr.drewN nq = wq at *
        go_loopw [11] (fun vj w2 => ∃ (j' n3 : Nat), vj = .int .i64 (j' : Int) ∧ j' ≤ j ∧ i' ≤ j' + 1 ∧ Hid (w2 = RW w blk off n3 dk) ∧ Hid (∀ t, j' < t → t < b → ltInt (G t) P = false)) (fun vj _ => natOf vj)
        case atStart => exact ⟨j, n2, rfl, Nat.le_refl _, hi2, HW2, HR⟩
        case round =>
          clear HW2 HR
          obtain ⟨j', n3, rfl, hj1, hj2, HW, HR⟩ := hrel
          obtain ⟨hc, hf⟩ := rcells HH.out HN.out HD.out HW.out HG.out
          by_cases hlt2 : i' ≤ j'
          case' neg =>
            have hlf : decide ((i' : Int) ≤ (j' : Int)) = false := decide_eq_false (by omega)
            have hlg : decide (i' ≤ j') = false := decide_eq_false hlt2
          all_goals
            go_wp2_with fail
            go_quiet (first | (go_at_call 98; refine Calls.quiet_of_same (less _ _ _)))
            go_wp2_with fail
          all_goals first
            | (have hgo : ltInt (G j') (G a) = false := by simpa using ‹(!ltInt (G j') (G a)) = true›
               go_roundw
               case rel =>
                 refine ⟨j' - 1, n3 + nq, by congr 1; omega, by omega, by omega, by show _ = _; rw [HW.out, rw_drewN], fun t h1 h2 => ?_⟩
                 by_cases e : t = j'
                 · subst e; rw [← HA.out]; exact hgo
                 · exact HR.out t (by omega) h2
               case measure => simp [natOf]; omega)
            | skip
          all_goals
            have hy : i' ≤ j' → ltInt (G j') (G a) = true := fun h => by first | omega | simpa using ‹(!ltInt (G j') (G a)) = false›
            have HY : Hid _ := hy
            clear hy
            obtain ⟨n4, HW4⟩ : ∃ n4, Hid (wr.drewN nq = RW w blk off n4 dk) := ⟨n3 + nq, by show _ = _; rw [HW.out, rw_drewN]⟩
            obtain ⟨hc4, hf4⟩ := rcells HH.out HN.out HD.out HW4.out HG.out
            clear hc hf HW
            generalize wr.drewN nq = wq at *
            have HI2 : Hid (Inv a b P d i' j' dk) := ⟨HI.out.perm, HI.out.piv, fun t h1 h2 => by rw [← HG.out]; exact HL.out t h1 h2, fun t h1 h2 => by rw [← HG.out]; exact HR.out t h1 h2⟩
            by_cases hgt : j' < i'
            · first
                | (exfalso; omega; done)
                | (have hgz : decide ((j' : Int) < (i' : Int)) = true := decide_eq_true (by omega)
                   go_wp2_with fail
                   have hij' : i' = j' + 1 := by omega
                   have HF : Hid (Fin a b P d j' (swp dk j' a)) := HI2.out.fin HS.out hb hij' (by omega) (by omega)
                   clear hij'
                   have HSF : Hid (((RW w blk off n4 dk).setCell ⟨blk, off + j', none⟩ (.int .u64 (G a))).setCell ⟨blk, off + a, none⟩ (.int .u64 (G j')) = RW w blk off n4 (swp dk j' a)) := by show _ = _; rw [HG.out, HG.out]; exact rw_swap w blk off n4 dk j' a (by rw [HS.out]; omega) (by rw [HS.out]; omega)
                   rcases Nat.eq_or_lt_of_le (show a ≤ j' by omega) with rfl | haj
                   all_goals
                     go_region
                     go_wp2_with fail
                     all_goals
                       go_ret2
                       exact ⟨_, true, n4 + 1, _, rfl, by rw [HW4.out, HSF.out, rw_drew], HF.out⟩)
            · first
                | (exfalso; omega; done)
                | (have hgz : decide ((j' : Int) < (i' : Int)) = false := decide_eq_false (by omega)
                   have hne : i' < j' := by
                     rcases Nat.lt_or_ge i' j' with h | h
                     · exact h
                     · have e : i' = j' := by omega
                       subst e
                       have h1 := HX.out (by omega)
                       rw [HY.out (Nat.le_refl _)] at h1
                       cases h1
                   have HZ : Hid (Inv a b P d (i' + 1) (j' - 1) (swp dk i' j')) :=
                     Inv.swap HI2.out HS.out hb (by omega) hne (by omega) (by rw [← HG.out, ← HA.out]; exact HX.out (by omega)) (by rw [← HG.out, ← HA.out]; exact HY.out (by omega))
                   have HSZ : Hid (((RW w blk off n4 dk).setCell ⟨blk, off + i', none⟩ (.int .u64 (G j'))).setCell ⟨blk, off + j', none⟩ (.int .u64 (G i')) = RW w blk off n4 (swp dk i' j')) := by show _ = _; rw [HG.out, HG.out]; exact rw_swap w blk off n4 dk i' j' (by rw [HS.out]; omega) (by rw [HS.out]; omega)
                   go_region
                   go_wp2_with fail
                   generalize hwq : World.drew _ = wq2
                   have HQ : Hid (wq2 = RW w blk off (n4 + 1) (swp dk i' j')) := by show _ = _; rw [← hwq, HW4.out, HSZ.out, rw_drew]
                   clear hwq HSZ
                   clear HL HR HX HY HA HI HI2 hc4 hf4
                   go_loopw [10, 11] (fun vi vj wr => ∃ (i j n : Nat) (dk : Array Int), vi = .int .i64 (i : Int) ∧ vj = .int .i64 (j : Int) ∧ a < i ∧ i ≤ j + 1 ∧ j < b ∧ Hid (wr = RW w blk off n dk) ∧ Hid (Inv a b P d i j dk)) (fun vi vj _ => natOf vj + 1 - natOf vi)
                   case atStart => exact ⟨i' + 1, j' - 1, n4 + 1, _, by go_num, by congr 1; omega, by omega, by omega, by omega, HQ, HZ⟩
                   case round =>
                     clear HQ HZ HW4
                     clear HD HS HG
                     obtain ⟨i, j, n, dk, rfl, rfl, hai, hij, hjb, HW, HI⟩ := hrel
                     have hds : dk.size = d.size := HI.out.perm.1
                     have HD : Hid (dk.size = d.size) := hds
                     have HS : Hid (dk.size = N) := hds.trans HN.out
                     clear hds
                     obtain ⟨G, hG⟩ : ∃ G : Nat → Int, ∀ t, G t = dk[t]! := ⟨fun t => dk[t]!, fun _ => rfl⟩
                     have HG : Hid (∀ t, G t = dk[t]!) := hG
                     clear hG
                     have HL : Hid (∀ t, a < t → t < i → ltInt (G t) P = true) := fun t h1 h2 => by rw [HG.out]; exact HI.out.low t h1 h2
                     have HR : Hid (∀ t, j < t → t < b → ltInt (G t) P = false) := fun t h1 h2 => by rw [HG.out]; exact HI.out.high t h1 h2
                     have HA : Hid (G a = P) := by show _ = _; rw [HG.out]; exact HI.out.piv
                     go_wp2_with fail
                     go_loopw [10] (fun vi w1 => ∃ (i' n1 : Nat), vi = .int .i64 (i' : Int) ∧ i ≤ i' ∧ i' ≤ j + 1 ∧ Hid (w1 = RW w blk off n1 dk) ∧ Hid (∀ t, a < t → t < i' → ltInt (G t) P = true)) (fun vi _ => j + 1 - natOf vi)
                     case atStart => exact ⟨i, n, rfl, Nat.le_refl _, hij, HW, HL⟩
                     case round =>
                       clear HW HL
                       obtain ⟨i', n1, rfl, hi1, hi2, HW, HL⟩ := hrel
                       obtain ⟨hc, hf⟩ := rcells HH.out HN.out HD.out HW.out HG.out
                       have haN : a < N := by omega
                       by_cases hlt : i' ≤ j
                       case' neg =>
                         have hlf : decide ((i' : Int) ≤ (j : Int)) = false := decide_eq_false (by omega)
                         have hlg : decide (i' ≤ j) = false := decide_eq_false hlt
                       all_goals
                         go_wp2_with fail
                         go_quiet (first | (go_at_call 98; refine Calls.quiet_of_same (less _ _ _)))
                         go_wp2_with fail
                       all_goals first
                         | (have hgo : ltInt (G i') (G a) = true := by assumption
                            go_roundw
                            case rel =>
                              refine ⟨i' + 1, n1 + nq, by go_num, by omega, by omega, by show _ = _; rw [HW.out, rw_drewN], fun t h1 h2 => ?_⟩
                              by_cases e : t = i'
                              · subst e; rw [← HA.out]; exact hgo
                              · exact HL.out t h1 (by omega)
                            case measure => simp [natOf]; omega)
                         | skip
                       all_goals
                         have hx : i' ≤ j → ltInt (G i') (G a) = false := fun h => by first | omega | assumption
                         have HX : Hid _ := hx
                         clear hx
                         obtain ⟨n2, HW2⟩ : ∃ n2, Hid (wr.drewN nq = RW w blk off n2 dk) := ⟨n1 + nq, by show _ = _; rw [HW.out, rw_drewN]⟩
                         clear hc hf HW
                         generalize wr.drewN nq = wq at *
                         go_loopw [11] (fun vj w2 => ∃ (j' n3 : Nat), vj = .int .i64 (j' : Int) ∧ j' ≤ j ∧ i' ≤ j' + 1 ∧ Hid (w2 = RW w blk off n3 dk) ∧ Hid (∀ t, j' < t → t < b → ltInt (G t) P = false)) (fun vj _ => natOf vj)
                         case atStart => exact ⟨j, n2, rfl, Nat.le_refl _, hi2, HW2, HR⟩
                         case round =>
                           clear HW2 HR
                           obtain ⟨j', n3, rfl, hj1, hj2, HW, HR⟩ := hrel
                           obtain ⟨hc, hf⟩ := rcells HH.out HN.out HD.out HW.out HG.out
                           by_cases hlt2 : i' ≤ j'
                           case' neg =>
                             have hlf : decide ((i' : Int) ≤ (j' : Int)) = false := decide_eq_false (by omega)
                             have hlg : decide (i' ≤ j') = false := decide_eq_false hlt2
                           all_goals
                             go_wp2_with fail
                             go_quiet (first | (go_at_call 98; refine Calls.quiet_of_same (less _ _ _)))
                             go_wp2_with fail
                           all_goals first
                             | (have hgo : ltInt (G j') (G a) = false := by simpa using ‹(!ltInt (G j') (G a)) = true›
                                go_roundw
                                case rel =>
                                  refine ⟨j' - 1, n3 + nq, by congr 1; omega, by omega, by omega, by show _ = _; rw [HW.out, rw_drewN], fun t h1 h2 => ?_⟩
                                  by_cases e : t = j'
                                  · subst e; rw [← HA.out]; exact hgo
                                  · exact HR.out t (by omega) h2
                                case measure => simp [natOf]; omega)
                             | skip
                           all_goals
                             have hy : i' ≤ j' → ltInt (G j') (G a) = true := fun h => by first | omega | simpa using ‹(!ltInt (G j') (G a)) = false›
                             have HY : Hid _ := hy
                             clear hy
                             obtain ⟨n4, HW4⟩ : ∃ n4, Hid (wr.drewN nq = RW w blk off n4 dk) := ⟨n3 + nq, by show _ = _; rw [HW.out, rw_drewN]⟩
                             obtain ⟨hc4, hf4⟩ := rcells HH.out HN.out HD.out HW4.out HG.out
                             clear hc hf HW
                             generalize wr.drewN nq = wq at *
                             have HI2 : Hid (Inv a b P d i' j' dk) := ⟨HI.out.perm, HI.out.piv, fun t h1 h2 => by rw [← HG.out]; exact HL.out t h1 h2, fun t h1 h2 => by rw [← HG.out]; exact HR.out t h1 h2⟩
                             by_cases hgt : j' < i'
                             · first
                                 | (exfalso; omega; done)
                                 | (have hgz : decide ((j' : Int) < (i' : Int)) = true := decide_eq_true (by omega)
                                    go_wp2_with fail
                                    have hij' : i' = j' + 1 := by omega
                                    have HF : Hid (Fin a b P d j' (swp dk j' a)) := HI2.out.fin HS.out hb hij' (by omega) (by omega)
                                    clear hij'
                                    have HSF : Hid (((RW w blk off n4 dk).setCell ⟨blk, off + j', none⟩ (.int .u64 (G a))).setCell ⟨blk, off + a, none⟩ (.int .u64 (G j')) = RW w blk off n4 (swp dk j' a)) := by show _ = _; rw [HG.out, HG.out]; exact rw_swap w blk off n4 dk j' a (by rw [HS.out]; omega) (by rw [HS.out]; omega)
                                    rcases Nat.eq_or_lt_of_le (show a ≤ j' by omega) with rfl | haj
                                    all_goals
                                      go_region
                                      go_wp2_with fail
                                      all_goals
                                        go_ret2
                                        exact ⟨_, false, n4 + 1, _, rfl, by rw [HW4.out, HSF.out, rw_drew], HF.out⟩)
                             · first
                                 | (exfalso; omega; done)
                                 | (have hgz : decide ((j' : Int) < (i' : Int)) = false := decide_eq_false (by omega)
                                    have hne : i' < j' := by
                                      rcases Nat.lt_or_ge i' j' with h | h
                                      · exact h
                                      · have e : i' = j' := by omega
                                        subst e
                                        have h1 := HX.out (by omega)
                                        rw [HY.out (Nat.le_refl _)] at h1
                                        cases h1
                                    have HZ : Hid (Inv a b P d (i' + 1) (j' - 1) (swp dk i' j')) :=
                                      Inv.swap HI2.out HS.out hb (by omega) hne (by omega) (by rw [← HG.out, ← HA.out]; exact HX.out (by omega)) (by rw [← HG.out, ← HA.out]; exact HY.out (by omega))
                                    have HSZ : Hid (((RW w blk off n4 dk).setCell ⟨blk, off + i', none⟩ (.int .u64 (G j'))).setCell ⟨blk, off + j', none⟩ (.int .u64 (G i')) = RW w blk off n4 (swp dk i' j')) := by show _ = _; rw [HG.out, HG.out]; exact rw_swap w blk off n4 dk i' j' (by rw [HS.out]; omega) (by rw [HS.out]; omega)
                                    go_region
                                    go_wp2_with fail
                                    go_roundw
                                    case rel =>
                                      refine ⟨i' + 1, j' - 1, n4 + 1, _, by go_num, by congr 1; omega, by omega, by omega, by omega, ?_, HZ⟩
                                      show _ = _
                                      rw [HW4.out, HSZ.out, rw_drew]
                                    case measure => simp [natOf]; omega))
end Go.Proofs.YtkgmcabamhpjhaaGreat.SoPart
