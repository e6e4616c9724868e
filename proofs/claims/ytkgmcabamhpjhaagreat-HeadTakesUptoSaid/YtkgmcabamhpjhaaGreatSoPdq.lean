/- slices.Sort at uint64: pdqsortOrdered sorts its part of the row. Conditions: those of the statement. -/
import Derived.Test.YtkgmcabamhpjhaaGreatSoKits
import Derived.Test.YtkgmcabamhpjhaaGreatSoSifts
import Derived.Test.YtkgmcabamhpjhaaGreatSoPeq
import Derived.Test.YtkgmcabamhpjhaaGreatSoPart
import Derived.Test.YtkgmcabamhpjhaaGreatSoBrk
import Derived.Test.YtkgmcabamhpjhaaGreatSoPi
namespace Go.Proofs.YtkgmcabamhpjhaaGreat.SoPdq
open Go Go.RowKit Go.Sort SoKit SoSt

structure Ctx (w : World) (blk off N : Nat) (d0 : Array Int) : Prop where
  row : Holds E64 w blk off d0
  size : d0.size = N
  blk : blk < w.heap.size
  top : N < 4611686018427387904
section
variable {w wr w' : World} {blk off N : Nat} {d0 dk dn : Array Int}
theorem Ctx.at_ (C : Ctx w blk off N d0) (hA : At w blk off dk wr) (hs : dk.size = d0.size) : Holds E64 wr blk off dk := at_holds C.blk C.row hs hA
theorem Ctx.step {n : Nat} (C : Ctx w blk off N d0) (hA : At w blk off dk wr) (hs : dn.size = dk.size) (h : w' = RW wr blk off n dn) : At w blk off dn w' := at_trans C.blk hs hA (h ▸ at_rw)
theorem Ctx.stepG {n : Nat} {os : Array Obj} (C : Ctx w blk off N d0) (hA : At w blk off dk wr) (hs : dn.size = dk.size) (h : w' = Sort.grow (RW wr blk off n dn) os) : At w blk off dn w' := at_trans C.blk hs hA ⟨n, os, h⟩
theorem Ctx.lt (C : Ctx w blk off N d0) (hA : At w blk off dk wr) : blk < wr.heap.size := Nat.lt_of_lt_of_le C.blk (at_size hA)
end
theorem insA {w wr : World} {blk off N : Nat} {d0 dk : Array Int} (C : Ctx w blk off N d0) (hA : At w blk off dk wr) (hs : dk.size = d0.size) (cap a b : Nat) (hab : a ≤ b) (hb : b ≤ N) :
    Calls Tryz.prog 92 #[.slice (some ⟨blk, off, none⟩) N cap, .int .i64 (a : Int), .int .i64 (b : Int)] wr fun e w' => e = .returned (.tuple #[]) ∧ ∃ dn, At w blk off dn w' ∧ PermIn a b dk dn ∧ SortedIn ltInt a b dn :=
  (SoIns.ins_any blk off cap a b N dk wr (C.at_ hA hs) (hs.trans C.size) hab hb C.top).mono fun _e _w' ⟨he, _n, dn, hw, hp, hso⟩ => ⟨he, dn, C.step hA hp.1 hw, hp, hso⟩
theorem heapA {w wr : World} {blk off N : Nat} {d0 dk : Array Int} (C : Ctx w blk off N d0) (hA : At w blk off dk wr) (hs : dk.size = d0.size) (cap a b : Nat) (hab : a ≤ b) (hb : b ≤ N) :
    Calls Tryz.prog 93 #[.slice (some ⟨blk, off, none⟩) N cap, .int .i64 (a : Int), .int .i64 (b : Int)] wr fun e w' => e = .returned (.tuple #[]) ∧ ∃ dn, At w blk off dn w' ∧ PermIn a b dk dn ∧ SortedIn ltInt a b dn :=
  (SoHeap.heap_any blk off cap a b N dk wr (C.at_ hA hs) (hs.trans C.size) hab hb C.top).mono fun _e _w' ⟨he, _n, dn, hw, hp, hso⟩ => ⟨he, dn, C.step hA hp.1 hw, hp, hso⟩
theorem revA {w wr : World} {blk off N : Nat} {d0 dk : Array Int} (C : Ctx w blk off N d0) (hA : At w blk off dk wr) (hs : dk.size = d0.size) (cap a b : Nat) (hab : a ≤ b) (hb : b ≤ N) :
    Calls Tryz.prog 96 #[.slice (some ⟨blk, off, none⟩) N cap, .int .i64 (a : Int), .int .i64 (b : Int)] wr fun e w' => e = .returned (.tuple #[]) ∧ ∃ dn, At w blk off dn w' ∧ PermIn a b dk dn :=
  (SoRev.rev_any blk off cap a b N dk wr (C.at_ hA hs) (hs.trans C.size) hab hb C.top).mono fun _e _w' ⟨he, _n, dn, hw, hp⟩ => ⟨he, dn, C.step hA hp.1 hw, hp⟩
theorem brkA {w wr : World} {blk off N : Nat} {d0 dk : Array Int} (C : Ctx w blk off N d0) (hA : At w blk off dk wr) (hs : dk.size = d0.size) (cap a b : Nat) (hab : a ≤ b) (hb : b ≤ N) :
    Calls Tryz.prog 94 #[.slice (some ⟨blk, off, none⟩) N cap, .int .i64 (a : Int), .int .i64 (b : Int)] wr fun e w' => e = .returned (.tuple #[]) ∧ ∃ dn, At w blk off dn w' ∧ PermIn a b dk dn :=
  (SoBrk.brk_any blk off cap a b N dk wr (C.at_ hA hs) (hs.trans C.size) (C.lt hA) hab hb C.top).mono fun _e _w' ⟨he, _n, _os, dn, hw, hp⟩ => ⟨he, dn, C.stepG hA hp.1 hw, hp⟩
theorem pivA {w wr : World} {blk off N : Nat} {d0 dk : Array Int} (C : Ctx w blk off N d0) (hA : At w blk off dk wr) (hs : dk.size = d0.size) (cap a b : Nat) (hab : a < b) (hb : b ≤ N) :
    Calls Tryz.prog 95 #[.slice (some ⟨blk, off, none⟩) N cap, .int .i64 (a : Int), .int .i64 (b : Int)] wr fun e w' => ∃ (p : Nat) (h : Int), e = .returned (.tuple #[.int .i64 (p : Int), .int .i64 h]) ∧ a ≤ p ∧ p < b ∧ At w blk off dk w' :=
  (SoPiv.piv_any blk off cap a b N dk wr (C.at_ hA hs) (hs.trans C.size) (C.lt hA) hab hb C.top).mono fun _e _w' ⟨p, h, _n, _os, he, h1, h2, hw⟩ => ⟨p, h, he, h1, h2, hw ▸ at_grown C.blk hA⟩
theorem piA {w wr : World} {blk off N : Nat} {d0 dk : Array Int} (C : Ctx w blk off N d0) (hA : At w blk off dk wr) (hs : dk.size = d0.size) (cap a b : Nat) (hab : a < b) (hb : b ≤ N) (hB : Go.Sort.Below ltInt a b dk) :
    Calls Tryz.prog 97 #[.slice (some ⟨blk, off, none⟩) N cap, .int .i64 (a : Int), .int .i64 (b : Int)] wr fun e w' => ∃ (q : Bool) (dn : Array Int), e = .returned (.bool q) ∧ At w blk off dn w' ∧ PermIn a b dk dn ∧ (q = true → SortedIn ltInt a b dn) :=
  (SoPi.pi_any blk off cap a b N dk wr (C.at_ hA hs) (hs.trans C.size) hab hb C.top hB).mono fun _e _w' ⟨q, _n, dn, he, hw, hp, hso⟩ => ⟨q, dn, he, C.step hA hp.1 hw, hp, hso⟩
theorem peqA {w wr : World} {blk off N : Nat} {d0 dk : Array Int} (C : Ctx w blk off N d0) (hA : At w blk off dk wr) (hs : dk.size = d0.size) (cap a b p : Nat) (hap : a ≤ p) (hpb : p < b) (hb : b ≤ N) :
    Calls Tryz.prog 99 #[.slice (some ⟨blk, off, none⟩) N cap, .int .i64 (a : Int), .int .i64 (b : Int), .int .i64 (p : Int)] wr fun e w' => ∃ (mid : Nat) (dn : Array Int), e = .returned (.int .i64 (mid : Int)) ∧ At w blk off dn w' ∧ PermIn a b dk dn ∧ a < mid ∧ mid ≤ b ∧ (∀ t, a ≤ t → t < mid → ltInt dk[p]! dn[t]! = false) ∧ (∀ t, mid ≤ t → t < b → ltInt dk[p]! dn[t]! = true) :=
  (SoPeq.peq_any blk off cap a b p N dk wr (C.at_ hA hs) (hs.trans C.size) hap hpb hb C.top).mono fun _e _w' ⟨mid, _n, dn, he, hw, hp, h1, h2, h3, h4⟩ => ⟨mid, dn, he, C.step hA hp.1 hw, hp, h1, h2, h3, h4⟩
theorem partA {w wr : World} {blk off N : Nat} {d0 dk : Array Int} (C : Ctx w blk off N d0) (hA : At w blk off dk wr) (hs : dk.size = d0.size) (cap a b p : Nat) (hap : a ≤ p) (hpb : p < b) (hb : b ≤ N) :
    Calls Tryz.prog 100 #[.slice (some ⟨blk, off, none⟩) N cap, .int .i64 (a : Int), .int .i64 (b : Int), .int .i64 (p : Int)] wr fun e w' => ∃ (mid : Nat) (q : Bool) (dn : Array Int), e = .returned (.tuple #[.int .i64 (mid : Int), .bool q]) ∧ At w blk off dn w' ∧ SoPart.Fin a b dk[p]! dk mid dn :=
  (SoPart.part_any blk off cap a b p N dk wr (C.at_ hA hs) (hs.trans C.size) hap hpb hb C.top).mono fun _e _w' ⟨mid, q, _n, dn, he, hw, hF⟩ => ⟨mid, q, dn, he, C.step hA hF.perm.1 hw, hF⟩

set_option maxHeartbeats 64000000 in
set_option maxRecDepth 100000 in
theorem pdq_any (w : World) (blk off cap N : Nat) (d0' : Array Int) (hC : Ctx w blk off N d0') : ∀ (K a b lim : Nat) (dk : Array Int) (wr : World), b - a < K → dk.size = d0'.size → At w blk off dk wr → a ≤ b → b ≤ N → lim < 4611686018427387904 → Go.Sort.Below ltInt a b dk →
    Calls Tryz.prog 60 #[.slice (some ⟨blk, off, none⟩) N cap, .int .i64 (a : Int), .int .i64 (b : Int), .int .i64 (lim : Int)] wr fun e w' =>
      e = .returned (.tuple #[]) ∧ ∃ dn, At w blk off dn w' ∧ PermIn a b dk dn ∧ SortedIn ltInt a b dn := by
  intro K
  induction K with
  | zero => intro a b lim dk wr h; omega
  | succ K IH0 =>
    intro a0 b0 lim0 d0 w0 hK hd0 hA0 hab0 hb0 hlim0 hB0
    have IH : Hid (∀ (a b lim : Nat) (dk : Array Int) (wr : World), b - a < b0 - a0 → dk.size = d0.size → At w blk off dk wr → a ≤ b → b ≤ N → lim < 4611686018427387904 → Go.Sort.Below ltInt a b dk →
        Calls Tryz.prog 60 #[.slice (some ⟨blk, off, none⟩) N cap, .int .i64 (a : Int), .int .i64 (b : Int), .int .i64 (lim : Int)] wr fun e w' =>
          e = .returned (.tuple #[]) ∧ ∃ dn, At w blk off dn w' ∧ PermIn a b dk dn ∧ SortedIn ltInt a b dn) := fun a b lim dk wr h1 h2 h3 h4 h5 h6 h7 => IH0 a b lim dk wr (by omega) (h2.trans hd0) h3 h4 h5 h6 h7
    clear IH0 hK
    have HST : Hid (St a0 b0 d0 a0 b0 d0) := St.start hab0 (by rw [hd0, hC.size]; exact hb0) hB0
    have HA0 : Hid (At w blk off d0 w0) := hA0
    have htop := hC.top
    -- the row as it stood at the entry serves as the row of the context
    have HC : Hid (∃ d9, Ctx w blk off N d9 ∧ d9.size = d0.size) := ⟨d0', hC, hd0.symm⟩
    have HN0 : Hid (d0.size = N) := hd0.trans hC.size
    obtain ⟨d9, hc9, hs9⟩ := HC.out
    clear HC
    have HC : Hid (Ctx w blk off N d9) := hc9
    have H9 : Hid (d9.size = d0.size) := hs9
    clear hC hd0 hA0 hB0 hc9 hs9 hab0
    go_enter Tryz.func60, Tryz.ntmps60
    go_wp2_with fail
    go_loopw [1, 2, 3, 8, 9] (fun va vb vl vwb vwp wr => ∃ (a b lim : Nat) (wb wp : Bool) (dk : Array Int), va = .int .i64 (a : Int) ∧ vb = .int .i64 (b : Int) ∧ vl = .int .i64 (lim : Int) ∧ vwb = .bool wb ∧ vwp = .bool wp ∧ lim < 4611686018427387904 ∧ Hid (At w blk off dk wr) ∧ Hid (St a0 b0 d0 a b dk)) (fun va vb _ _ _ _ => natOf vb - natOf va)
    case atStart => exact ⟨a0, b0, lim0, true, true, d0, rfl, rfl, rfl, rfl, rfl, hlim0, HA0, HST⟩
    case round =>
      clear HA0 HST hlim0
      obtain ⟨a, b, lim, wb, wp, dk, rfl, rfl, rfl, rfl, rfl, hlim, HA, HS⟩ := hrel
      have hab := HS.out.le
      have hba := HS.out.hi
      have haa := HS.out.ge
      have hbN : b ≤ N := by omega
      by_cases h12 : b - a ≤ 12
      · go_wp2_with fail
        refine (insA HC.out HA.out (HS.out.size.trans H9.out.symm) cap a b hab hbN).mono ?_
        rintro e w5 ⟨rfl, dn, hA5, hp5, hs5⟩
        go_wp2_with fail
        refine bodyPost_ret (results_none rfl _ _ _) rfl ?_
        exact ⟨rfl, dn, hA5, HS.out.fin dn hp5 hs5⟩
      by_cases hl0 : lim = 0
      · subst hl0
        go_wp2_with fail
        refine (heapA HC.out HA.out (HS.out.size.trans H9.out.symm) cap a b hab hbN).mono ?_
        rintro e w5 ⟨rfl, dn, hA5, hp5, hs5⟩
        go_wp2_with fail
        refine bodyPost_ret (results_none rfl _ _ _) rfl ?_
        exact ⟨rfl, dn, hA5, HS.out.fin dn hp5 hs5⟩
      go_wp2_with fail
      all_goals first
        | (refine (brkA HC.out HA.out (HS.out.size.trans H9.out.symm) cap a b hab hbN).mono ?_
           rintro e w5 ⟨rfl, dn, hA5, hp5⟩
           have HS5 : Hid (St a0 b0 d0 a b dn) := HS.out.perm hp5
           have HA5 : Hid (At w blk off dn w5) := hA5
           obtain ⟨lim5, hl5⟩ : ∃ lim5 : Nat, (lim : Int) - 1 = (lim5 : Int) := ⟨lim - 1, by omega⟩
           have hlim5 : lim5 < 4611686018427387904 := by omega
           clear hA5 hp5 HS HA
           go_wp2_with fail
           clear hl5 hlim hl0)
        | (have HS5 := HS
           have HA5 := HA
           have hlim5 := hlim
           clear HS HA hlim hl0
           generalize lim = lim5 at *
           generalize dk = dn at *
           generalize wr = w5 at *)
      all_goals
        refine (pivA HC.out HA5.out (HS5.out.size.trans H9.out.symm) cap a b (by omega) hbN).mono ?_
        rintro e w6 ⟨p, h, rfl, hp1, hp2, hA6⟩
        have HA6 : Hid (At w blk off dn w6) := hA6
        clear hA6 HA5
        by_cases hh : h = 2
        case' pos => subst hh
        all_goals
          go_wp2_with fail
      all_goals first
        | (refine (revA HC.out HA6.out (HS5.out.size.trans H9.out.symm) cap a b hab hbN).mono ?_
           rintro e w7 ⟨rfl, d7, hA7, hp7⟩
           have HS7 : Hid (St a0 b0 d0 a b d7) := HS5.out.perm hp7
           have HA7 : Hid (At w blk off d7 w7) := hA7
           obtain ⟨p7, hp7e⟩ : ∃ p7 : Nat, (b : Int) - 1 - ((p : Int) - (a : Int)) = (p7 : Int) := ⟨b - 1 - (p - a), by omega⟩
           have hq1 : a ≤ p7 := by omega
           have hq2 : p7 < b := by omega
           clear hA7 hp7 HS5 HA6
           go_wp2_with fail
           all_goals clear hp7e hp1 hp2)
        | (have HS7 := HS5
           have HA7 := HA6
           have hq1 := hp1
           have hq2 := hp2
           clear HS5 HA6 hp1 hp2
           generalize p = p7 at *
           generalize dn = d7 at *
           generalize w6 = w7 at *)
      all_goals first
        | (refine (piA HC.out HA7.out (HS7.out.size.trans H9.out.symm) cap a b (by omega) hbN HS7.out.below).mono ?_
           rintro e w8 ⟨q, d8, rfl, hA8, hp8, hs8⟩
           cases q
           case true =>
             have HFIN : Hid _ := HS7.out.fin d8 hp8 (hs8 rfl)
             have HA8 : Hid _ := hA8
             clear hs8 hp8 hA8
             go_wp2_with fail
             refine bodyPost_ret (results_none rfl _ _ _) rfl ?_
             exact ⟨rfl, d8, HA8.out, HFIN.out⟩
           have HS8 : Hid (St a0 b0 d0 a b d8) := HS7.out.perm hp8
           have HA8 : Hid (At w blk off d8 w8) := hA8
           clear hA8 hp8 hs8 HS7 HA7
           go_wp2_with fail)
        | (have HS8 := HS7
           have HA8 := HA7
           clear HS7 HA7
           generalize d7 = d8 at *
           generalize w7 = w8 at *)
      all_goals as_aux_lemma =>
        -- 'a > 0 && !Less(data[a-1], data[pivot])'
        have hz : d8.size = d9.size := HS8.out.size.trans H9.out.symm
        obtain ⟨G, hG⟩ := fam (HC.out.at_ HA8.out hz)
        have hc : ∀ t, t < N → _ := fun t ht => hG.cell t (by rw [hz, HC.out.size]; exact ht)
        have HG : Hid (∀ t, G t = d8[t]!) := hG.is
        clear hG
        by_cases ha0 : 0 < a
        case' neg =>
          have hz1 : decide ((0 : Int) < (a : Int)) = false := decide_eq_false (by omega)
          have hz2 : decide (0 < a) = false := decide_eq_false ha0
        all_goals
          go_wp2_with fail
          go_quiet (first | (go_at_call 98; refine Calls.quiet_of_same (less _ _ _)))
          go_wp2_with fail
        all_goals
          obtain ⟨wz, HZ, HAz⟩ : ∃ wz, w8.drewN nq = wz ∧ Hid (At w blk off d8 wz) := ⟨_, rfl, at_drewN nq HA8.out⟩
          rw [HZ]
          clear HZ hc HA8
          first
            | (have hl : ltInt (G (a - 1)) (G p7) = false := by simpa using ‹(!ltInt (G (a - 1)) (G p7)) = true›
               refine (peqA HC.out HAz.out hz cap a b p7 hq1 hq2 hbN).mono ?_
               rintro e w5 ⟨mid, dn, rfl, hA5, hp5, hm1, hm2, hlo, hhi⟩
               have HA5 : Hid _ := hA5
               have HS5 : Hid (St a0 b0 d0 mid b dn) := HS8.out.eq ha0 hq1 hq2 (by rw [← HG.out, ← HG.out]; exact hl) hm1 hm2 hp5 hlo hhi
               clear hA5 hp5 hlo hhi
               go_wp2_with fail
               go_roundw
               case rel => exact ⟨mid, b, lim5, _, _, dn, rfl, rfl, rfl, rfl, rfl, hlim5, HA5, HS5⟩
               case measure => simp [natOf]; omega)
            | (refine (partA HC.out HAz.out hz cap a b p7 hq1 hq2 hbN).mono ?_
               rintro e w5 ⟨mid, ap, dn, rfl, hA5, hF⟩
               have HA5 : Hid _ := hA5
               have HF : Hid _ := hF
               have hm1 := hF.ge
               have hm2 := hF.lt
               have hdn : Hid (dn.size = d0.size) := hF.perm.1.trans HS8.out.size
               clear hA5 hF
               have hmb : (mid : Int) - (a : Int) < (b : Int) - (mid : Int) ∨ ¬ ((mid : Int) - (a : Int) < (b : Int) - (mid : Int)) := Classical.em _
               rcases hmb with hlr | hlr
               · go_wp2_with fail
                 refine (IH.out a mid lim5 dn _ (by omega) hdn.out HA5.out (by omega) (by omega) hlim5 (HS8.out.belowL HF.out.perm hm2)).mono ?_
                 rintro e w6 ⟨rfl, d6, hA6, hp6, hs6⟩
                 have HA6 : Hid _ := hA6
                 have HS6 : Hid (St a0 b0 d0 (mid + 1) b d6) := HS8.out.goL HF.out.perm hm1 hm2 HF.out.piv HF.out.low HF.out.high hp6 hs6
                 clear hA6 hp6 hs6
                 go_wp2_with fail
                 go_roundw
                 case rel => exact ⟨mid + 1, b, lim5, _, ap, d6, by go_num, rfl, rfl, rfl, rfl, hlim5, HA6, HS6⟩
                 case measure => simp [natOf]; omega
               · go_wp2_with fail
                 have hIH := IH.out (mid + 1) b lim5 dn w5 (by omega) hdn.out HA5.out (by omega) (by omega) hlim5 (St.belowR HF.out.piv HF.out.high)
                 rw [show ((mid + 1 : Nat) : Int) = (mid : Int) + 1 by omega] at hIH
                 refine hIH.mono ?_
                 clear hIH
                 rintro e w6 ⟨rfl, d6, hA6, hp6, hs6⟩
                 have HA6 : Hid _ := hA6
                 have HS6 : Hid (St a0 b0 d0 a mid d6) := HS8.out.goR HF.out.perm hm1 hm2 HF.out.piv HF.out.low HF.out.high hp6 hs6
                 clear hA6 hp6 hs6
                 go_wp2_with fail
                 go_roundw
                 case rel => exact ⟨a, mid, lim5, _, ap, d6, rfl, rfl, rfl, rfl, rfl, hlim5, HA6, HS6⟩
                 case measure => simp [natOf]; omega)
end Go.Proofs.YtkgmcabamhpjhaaGreat.SoPdq
