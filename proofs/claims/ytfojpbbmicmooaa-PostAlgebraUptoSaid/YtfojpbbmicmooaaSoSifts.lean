/- slices.Sort at uint64: siftDownOrdered and heapSortOrdered. Conditions: those of the statements. · slices.Sort at uint64: heapSortOrdered sorts its part of the row. Conditions: those of the statement. -/
import Derived.Test.YtfojpbbmicmooaaSoKit
namespace Go.Proofs.Ytfojpbbmicmooaa.SoSift
open Go Go.RowKit Go.Sort SoKit

theorem sift_done {hi F r : Nat} {d : Array Int} (h : 2 * r + 1 ≥ hi) : siftDown ltInt hi F r d = d := by rw [siftDown, dif_pos h]
theorem sift_size (hi F : Nat) : ∀ (k r : Nat) (d : Array Int), hi - r ≤ k → (siftDown ltInt hi F r d).size = d.size
  | 0, r, d, h => by rw [sift_done (by omega)]
  | k + 1, r, d, h => by
    rw [siftDown]
    repeat' split
    all_goals first | rfl | (rw [sift_size hi F k _ _ (by omega), size_swp])
/-- Which child is looked at: the greater one. -/
def kid (hi F r : Nat) (d : Array Int) : Nat := if 2 * r + 2 < hi ∧ ltInt d[F + (2 * r + 1)]! d[F + (2 * r + 2)]! = true then 2 * r + 2 else 2 * r + 1
theorem kid_lt {hi F r : Nat} {d : Array Int} (h : 2 * r + 1 < hi) : kid hi F r d < hi ∧ r < kid hi F r d := by unfold kid; split <;> omega
theorem sift_stop {hi F r : Nat} {d : Array Int} (h : 2 * r + 1 < hi) (hl : ltInt d[F + r]! d[F + kid hi F r d]! = false) : siftDown ltInt hi F r d = d := by
  rw [siftDown, dif_neg (by omega)]
  unfold kid at hl
  by_cases hk : 2 * r + 2 < hi ∧ ltInt d[F + (2 * r + 1)]! d[F + (2 * r + 2)]! = true
  · rw [if_pos hk] at hl
    rw [if_pos (by rw [Bool.and_eq_true, decide_eq_true_eq]; exact hk), if_pos (by rw [hl]; rfl)]
  · rw [if_neg hk] at hl
    rw [if_neg (by rw [Bool.and_eq_true, decide_eq_true_eq]; exact hk), if_pos (by rw [hl]; rfl)]
theorem sift_go {hi F r : Nat} {d : Array Int} (h : 2 * r + 1 < hi) (hl : ltInt d[F + r]! d[F + kid hi F r d]! = true) : siftDown ltInt hi F r d = siftDown ltInt hi F (kid hi F r d) (swp d (F + r) (F + kid hi F r d)) := by
  rw [siftDown, dif_neg (by omega)]
  unfold kid at hl ⊢
  by_cases hk : 2 * r + 2 < hi ∧ ltInt d[F + (2 * r + 1)]! d[F + (2 * r + 2)]! = true
  · rw [if_pos hk] at hl
    rw [if_pos hk, if_pos (by rw [Bool.and_eq_true, decide_eq_true_eq]; exact hk), if_neg (by rw [hl]; decide), dif_pos hk.1]
  · rw [if_neg hk] at hl
    rw [if_neg hk, if_neg (by rw [Bool.and_eq_true, decide_eq_true_eq]; exact hk), if_neg (by rw [hl]; decide)]

set_option maxHeartbeats 8000000 in
theorem sift_any (blk off cap lo hi F N : Nat) (d : Array Int) (w : World) (hH : Holds E64 w blk off d) (hN : d.size = N) (hlo : lo ≤ hi) (hb : F + hi ≤ N) (hsz : N < 4611686018427387904) :
    Calls Try.prog 54 #[.slice (some ⟨blk, off, none⟩) N cap, .int .i64 (lo : Int), .int .i64 (hi : Int), .int .i64 (F : Int)] w fun e w' =>
      e = .returned (.tuple #[]) ∧ ∃ n, w' = RW w blk off n (siftDown ltInt hi F lo d) := by
  have HN : Hid (d.size = N) := hN
  clear hN
  have HH : Hid (Holds E64 w blk off d) := hH
  clear hH
  go_enter Try.func54, Try.ntmps54
  go_wp2
  go_loopw [8] (fun vi wr => ∃ (r n : Nat) (dk : Array Int), vi = .int .i64 (r : Int) ∧ r ≤ hi ∧ Hid (dk.size = d.size) ∧ Hid (wr = RW w blk off n dk) ∧ Hid (siftDown ltInt hi F r dk = siftDown ltInt hi F lo d)) (fun vi _ => hi - natOf vi)
  case atStart => exact ⟨lo, 0, d, rfl, hlo, rfl, (rw_self HH.out).symm, rfl⟩
  case round =>
    obtain ⟨r, n, dk, rfl, hr, HD, HW, HE⟩ := hrel
    obtain ⟨G, hc, hf, hg⟩ := rfam HH.out HN.out HD.out HW.out
    have HG : Hid (∀ t, G t = dk[t]!) := hg
    have HS : Hid (dk.size = N) := HD.out.trans HN.out
    clear hg
    by_cases h1 : 2 * r + 1 < hi
    · obtain ⟨c, hcd⟩ : ∃ c, c = kid hi F r dk := ⟨_, rfl⟩
      have hk := kid_lt (F := F) (d := dk) h1
      rw [← hcd] at hk
      have STOP := fun hl => sift_stop (F := F) (d := dk) h1 hl
      have GO := fun hl => sift_go (F := F) (d := dk) h1 hl
      rw [← hcd, ← HG.out, ← HG.out] at STOP GO
      have HSt : Hid _ := STOP
      have HGo : Hid _ := GO
      clear STOP GO
      have hkid : c = if 2 * r + 2 < hi ∧ ltInt (G (F + (2 * r + 1))) (G (F + (2 * r + 2))) = true then 2 * r + 2 else 2 * r + 1 := by rw [hcd, HG.out, HG.out]; rfl
      have HK : Hid _ := hkid
      clear hkid hcd
      obtain ⟨L1, hL1⟩ : ∃ q, ltInt (G (F + (2 * r + 1))) (G (F + (2 * r + 2))) = q := ⟨_, rfl⟩
      have hL1' : ltInt (G (F + 2 * r + 1)) (G (F + 2 * r + 2)) = L1 := by rw [← hL1]; congr 2
      by_cases h2 : 2 * r + 2 < hi
      case' pos =>
        have h1z : 2 * (r : Int) + 1 + 1 < (hi : Int) := by omega
        cases L1
      case' neg =>
        have h1z : decide (2 * (r : Int) + 1 + 1 < (hi : Int)) = false := decide_eq_false (by omega)
      all_goals
        go_wp2_with fail
        go_quiet (first | (go_at_call 32; refine Calls.quiet_of_same (less _ _ _)))
        go_wp2_with fail
      all_goals
        first
          | (have t1 : ltInt (G (F + (2 * r + 1))) (G (F + (2 * r + 2))) = true := hL1
             have t2 : 2 * (r : Int) + 1 + 1 < (hi : Int) := h1z
             rw [show (2 * (r : Int) + 1 + 1) = ((c : Nat) : Int) by have hce : c = 2 * r + 2 := (by rw [HK.out, if_pos ⟨h2, t1⟩]); omega])
          | rw [show (2 * (r : Int) + 1) = ((c : Nat) : Int) by have hce : c = 2 * r + 1 := (by rw [HK.out, if_neg (by rintro ⟨x1, x2⟩; first | omega | (rw [hL1] at x2; cases x2))]); omega]
        clear hL1 hL1' h1z
        obtain ⟨hk1, hk2⟩ := hk
        have hc2 : ∀ t, t < N → (wr.drewN nq).cell? ⟨blk, off + t, none⟩ = some (.int .u64 (G t)) := hc
        have hf2 : ∀ t, t < N → (wr.drewN nq).frozen? ⟨blk, off + t, none⟩ = false := hf
        obtain ⟨n2, HW2⟩ : ∃ n2, Hid (wr.drewN nq = RW w blk off n2 dk) := ⟨n + nq, by show _ = _; rw [HW.out, rw_drewN]⟩
        clear hc hf HW
        generalize wr.drewN nq = wq at *
        go_wp2_with fail
        go_quiet (first | (go_at_call 32; refine Calls.quiet_of_same (less _ _ _)))
        go_wp2_with fail
        · have hl : ltInt (G (F + r)) (G (F + c)) = false := by simpa using ‹(!ltInt (G (F + r)) (G (F + c))) = true›
          refine bodyPost_ret (results_none rfl _ _ _) rfl ?_
          exact ⟨rfl, n2 + nq, by rw [HW2.out, rw_drewN, ← HE.out, HSt.out hl]⟩
        · have hl : ltInt (G (F + r)) (G (F + c)) = true := by simpa using ‹(!ltInt (G (F + r)) (G (F + c))) = false›
          go_region
          all_goals go_wp2
          go_roundw
          case rel =>
            refine ⟨c, n2 + (nq + 1), swp dk (F + r) (F + c), rfl, by omega, ?_, ?_, ?_⟩
            · show _ = _
              rw [size_swp]; exact HD.out
            · show _ = _
              rw [HW2.out, rw_drewN, HG.out, HG.out]
              exact rw_swap w blk off _ dk (F + r) (F + c) (by rw [HS.out]; omega) (by rw [HS.out]; omega)
            · show _ = _
              rw [← HE.out, HGo.out hl]
          case measure => simp [natOf]; omega
    · go_wp2
      go_end0
      exact ⟨rfl, n, by rw [HW.out, ← HE.out, sift_done (by omega)]⟩
end Go.Proofs.Ytfojpbbmicmooaa.SoSift

namespace Go.Proofs.Ytfojpbbmicmooaa.SoHeap
open Go Go.RowKit Go.Sort SoKit SoSift

theorem build_size (hi F : Nat) : ∀ (k : Nat) (d : Array Int), (heapBuild ltInt hi F k d).size = d.size
  | 0, d => rfl
  | k + 1, d => by rw [heapBuild, build_size hi F k, sift_size hi F _ _ _ (Nat.le_refl _)]
def ctr : Value → Nat | .int _ q => (q + 1).toNat | _ => 0
set_option maxHeartbeats 8000000 in
theorem heap_any (blk off cap a b N : Nat) (d : Array Int) (w : World) (hH : Holds E64 w blk off d) (hN : d.size = N) (hab : a ≤ b) (hb : b ≤ N) (hsz : N < 4611686018427387904) :
    Calls Try.prog 44 #[.slice (some ⟨blk, off, none⟩) N cap, .int .i64 (a : Int), .int .i64 (b : Int)] w fun e w' =>
      e = .returned (.tuple #[]) ∧ ∃ n d', w' = RW w blk off n d' ∧ PermIn a b d d' ∧ SortedIn ltInt a b d' := by
  have HSORT : Hid (PermIn a b d (heapSort ltInt d a b) ∧ SortedIn ltInt a b (heapSort ltInt d a b)) := heapSort_holds swo_ltInt d a b hab (by omega)
  have HN : Hid (d.size = N) := hN
  clear hN
  have HH : Hid (Holds E64 w blk off d) := hH
  clear hH
  obtain ⟨L, hL⟩ : ∃ L, L = b - a := ⟨_, rfl⟩
  have e1 : (b : Int) - (a : Int) = (L : Int) := by omega
  have eh : heapSort ltInt d a b = heapPop ltInt a L (heapBuild ltInt L a ((L - 1) / 2 + 1) d) := by unfold heapSort; rw [hL]
  have haL : a + L ≤ N := by omega
  clear hL
  have EH : Hid _ := eh
  clear eh
  have ediv : ((L : Int) - 1).tdiv 2 = (((L - 1) / 2 : Nat) : Int) := by
    rcases Nat.eq_zero_or_pos L with rfl | h
    · rfl
    · rw [show (L : Int) - 1 = ((L - 1 : Nat) : Int) by omega, Int.ofNat_tdiv]; rfl
  obtain ⟨M, hM⟩ : ∃ M, M = (L - 1) / 2 := ⟨_, rfl⟩
  rw [← hM] at ediv
  have hML : M ≤ L := by omega
  have hM2 : Hid (M = (L - 1) / 2) := hM
  clear hM
  have cS : ∀ (lo hi : Nat) (n : Nat) (dk : Array Int), dk.size = N → lo ≤ hi → a + hi ≤ N → Calls Try.prog 54 #[.slice (some ⟨blk, off, none⟩) N cap, .int .i64 (lo : Int), .int .i64 (hi : Int), .int .i64 (a : Int)] (RW w blk off n dk) fun e w' =>
      e = .returned (.tuple #[]) ∧ ∃ m, w' = RW w blk off m (siftDown ltInt hi a lo dk) := fun lo hi n dk hs h1 h2 =>
    (sift_any blk off cap lo hi a N dk _ (rw_holds HH.out (hs.trans HN.out.symm)) hs h1 h2 hsz).mono fun e w' ⟨he, m, hw⟩ => ⟨he, _, hw.trans (rw_rw w blk off n m dk _ (sift_size _ _ _ _ _ (Nat.le_refl _)))⟩
  have CS : Hid _ := cS
  clear cS
  go_enter Try.func44, Try.ntmps44
  go_wp2
  go_loopw [9] (fun vi wr => ∃ (k n : Nat) (dk : Array Int), vi = .int .i64 ((k : Int) - 1) ∧ k ≤ M + 1 ∧ Hid (dk.size = N) ∧ Hid (wr = RW w blk off n dk) ∧ Hid (heapBuild ltInt L a k dk = heapBuild ltInt L a (M + 1) d)) (fun vi _ => ctr vi)
  case atStart => exact ⟨M + 1, 0, d, by congr 1; omega, Nat.le_refl _, HN.out, (rw_self HH.out).symm, rfl⟩
  case round =>
    obtain ⟨k, n, dk, rfl, hk, HD, HW, HE⟩ := hrel
    by_cases h0 : 0 < k
    · obtain ⟨t, rfl⟩ : ∃ t, k = t + 1 := ⟨k - 1, by omega⟩
      have et : ((t + 1 : Nat) : Int) - 1 = (t : Int) := by omega
      rw [et]
      have hc := CS.out t L n dk HD.out (by omega) haL
      rw [← HW.out] at hc
      go_wp2_with (go_at_call 54; refine hc.mono ?_; rintro e w' ⟨rfl, m, rfl⟩)
      go_roundw
      case rel => exact ⟨t, m, _, rfl, by omega, (by show _ = _; rw [sift_size _ _ _ _ _ (Nat.le_refl _)]; exact HD.out), rfl, HE.out⟩
      case measure => simp [ctr]
    · obtain rfl : k = 0 := by omega
      rw [show ((0 : Nat) : Int) - 1 = -1 from rfl]
      go_wp2_with fail
      have HE0 : Hid (dk = heapBuild ltInt L a (M + 1) d) := HE.out
      clear HE
      go_loopw [10] (fun vi wr2 => ∃ (k n : Nat) (dj : Array Int), vi = .int .i64 ((k : Int) - 1) ∧ k ≤ L ∧ Hid (dj.size = N) ∧ Hid (wr2 = RW w blk off n dj) ∧ Hid (heapPop ltInt a k dj = heapSort ltInt d a b)) (fun vi _ => ctr vi)
      case atStart => exact ⟨L, n, dk, by congr 1, Nat.le_refl _, HD.out, HW.out, (by show _ = _; rw [EH.out, HE0.out, hM2.out])⟩
      case round =>
        obtain ⟨k, n, dj, rfl, hk, HD2, HW2, HE2⟩ := hrel
        by_cases h0 : 0 < k
        · obtain ⟨t, rfl⟩ : ∃ t, k = t + 1 := ⟨k - 1, by omega⟩
          have et : ((t + 1 : Nat) : Int) - 1 = (t : Int) := by omega
          rw [et]
          obtain ⟨G, hc, hf, hg⟩ := rfam HH.out HN.out (HD2.out.trans HN.out.symm) HW2.out
          have HG : Hid (∀ t, G t = dj[t]!) := hg
          clear hg
          have hcs := fun (n2 : Nat) (dk2 : Array Int) (hs2 : dk2.size = N) => CS.out 0 t n2 dk2 hs2 (by omega) (by omega)
          have HCS : Hid _ := hcs
          clear hcs
          rcases Nat.eq_zero_or_pos t with rfl | ht
          · have HSW : Hid (((RW w blk off n dj).setCell ⟨blk, off + a, none⟩ (.int .u64 dj[a]!)).setCell ⟨blk, off + a, none⟩ (.int .u64 dj[a]!) = RW w blk off n (swp dj a (a + 0))) := rw_swap w blk off n dj a a (by rw [HD2.out]; omega) (by rw [HD2.out]; omega)
            go_wp2_with fail
            go_region
            go_wp2_with fail
            generalize hwq : World.drew _ = wq
            have HQ : wq = RW w blk off (n + 1) (swp dj a (a + 0)) := by rw [← hwq, HW2.out, HG.out a, HSW.out, rw_drew]
            subst HQ
            clear hwq
            refine (HCS.out (n + 1) (swp dj a (a + 0)) (by rw [size_swp]; exact HD2.out)).mono ?_
            rintro e w' ⟨rfl, m, rfl⟩
            go_wp2_with fail
            go_roundw
            case rel => exact ⟨0, m, _, rfl, by omega, (by show _ = _; rw [sift_size _ _ _ _ _ (Nat.le_refl _), size_swp]; exact HD2.out), rfl, HE2.out⟩
            case measure => simp [ctr]
          · have HSW : Hid (((RW w blk off n dj).setCell ⟨blk, off + a, none⟩ (.int .u64 dj[(a + t)]!)).setCell ⟨blk, off + (a + t), none⟩ (.int .u64 dj[a]!) = RW w blk off n (swp dj a (a + t))) := rw_swap w blk off n dj a (a + t) (by rw [HD2.out]; omega) (by rw [HD2.out]; omega)
            go_wp2_with fail
            go_region
            go_wp2_with fail
            generalize hwq : World.drew _ = wq
            have HQ : wq = RW w blk off (n + 1) (swp dj a (a + t)) := by rw [← hwq, HW2.out, HG.out, HG.out, HSW.out, rw_drew]
            subst HQ
            clear hwq
            refine (HCS.out (n + 1) (swp dj a (a + t)) (by rw [size_swp]; exact HD2.out)).mono ?_
            rintro e w' ⟨rfl, m, rfl⟩
            go_wp2_with fail
            go_roundw
            case rel => exact ⟨t, m, _, rfl, by omega, (by show _ = _; rw [sift_size _ _ _ _ _ (Nat.le_refl _), size_swp]; exact HD2.out), rfl, HE2.out⟩
            case measure => simp [ctr]
        · obtain rfl : k = 0 := by omega
          go_wp2
          go_end0
          exact ⟨rfl, n, dj, HW2.out, by rw [show dj = heapSort ltInt d a b from HE2.out]; exact HSORT.out⟩
end Go.Proofs.Ytfojpbbmicmooaa.SoHeap

