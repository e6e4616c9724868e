/- slices.Sort at uint64: siftDownOrdered and heapSortOrdered. Conditions: those of the statements. · slices.Sort at uint64: heapSortOrdered sorts its part of the row. Conditions: those of the statement. · slices.Sort at uint64: order2Ordered, medianOrdered, medianAdjacentOrdered, choosePivotOrdered: they read the row, count in one cell, and answer a place in bounds. Conditions: those of the statements. · slices.Sort at uint64: choosePivotOrdered answers a place of its part of the row. Conditions: those of the statement. -/
import Derived.Test.YtkgmcabamhpjhaaGreatSoKits
namespace Go.Proofs.YtkgmcabamhpjhaaGreat.SoSift
open Go Go.RowKit Go.Sort SoKit

theorem sift_done {hi F r : Nat} {d : Array Int} (h : 2 * r + 1 ≥ hi) : siftDown ltInt hi F r d = d := by rw [siftDown, dif_pos h]
theorem sift_size (hi F : Nat) : ∀ (k r : Nat) (d : Array Int), hi - r ≤ k → (siftDown ltInt hi F r d).size = d.size
  | 0, r, d, h => by rw [sift_done (by omega)]
  | k + 1, r, d, h => by
    rw [siftDown]
    repeat' split
    all_goals first | rfl | (rw [sift_size hi F k _ _ (by omega), size_swp])
/-- Which child is looked at: the greater one. -/
def kid (hi F r : Nat) (d : Array Int) : Nat := if 2 * r + 2 < hi ∧ ltInt d[F + (2 * r + 1)]! d[F + (2 * r + 2)]! = true then 2 * r + 2 else 2 * r + 1
theorem kid_lt {hi F r : Nat} {d : Array Int} (h : 2 * r + 1 < hi) : kid hi F r d < hi ∧ r < kid hi F r d := by unfold kid; split <;> omega
theorem sift_stop {hi F r : Nat} {d : Array Int} (h : 2 * r + 1 < hi) (hl : ltInt d[F + r]! d[F + kid hi F r d]! = false) : siftDown ltInt hi F r d = d := by
  rw [siftDown, dif_neg (by omega)]
  unfold kid at hl
  by_cases hk : 2 * r + 2 < hi ∧ ltInt d[F + (2 * r + 1)]! d[F + (2 * r + 2)]! = true
  · rw [if_pos hk] at hl
    rw [if_pos (by rw [Bool.and_eq_true, decide_eq_true_eq]; exact hk), if_pos (by rw [hl]; rfl)]
  · rw [if_neg hk] at hl
    rw [if_neg (by rw [Bool.and_eq_true, decide_eq_true_eq]; exact hk), if_pos (by rw [hl]; rfl)]
theorem sift_go {hi F r : Nat} {d : Array Int} (h : 2 * r + 1 < hi) (hl : ltInt d[F + r]! d[F + kid hi F r d]! = true) : siftDown ltInt hi F r d = siftDown ltInt hi F (kid hi F r d) (swp d (F + r) (F + kid hi F r d)) := by
  rw [siftDown, dif_neg (by omega)]
  unfold kid at hl ⊢
  by_cases hk : 2 * r + 2 < hi ∧ ltInt d[F + (2 * r + 1)]! d[F + (2 * r + 2)]! = true
  · rw [if_pos hk] at hl
    rw [if_pos hk, if_pos (by rw [Bool.and_eq_true, decide_eq_true_eq]; exact hk), if_neg (by rw [hl]; decide), dif_pos hk.1]
  · rw [if_neg hk] at hl
    rw [if_neg hk, if_neg (by rw [Bool.and_eq_true, decide_eq_true_eq]; exact hk), if_neg (by rw [hl]; decide)]

set_option maxHeartbeats 8000000 in
theorem sift_any (blk off cap lo hi F N : Nat) (d : Array Int) (w : World) (hH : Holds E64 w blk off d) (hN : d.size = N) (hlo : lo ≤ hi) (hb : F + hi ≤ N) (hsz : N < 4611686018427387904) :
    Calls Tryz.prog 121 #[.slice (some ⟨blk, off, none⟩) N cap, .int .i64 (lo : Int), .int .i64 (hi : Int), .int .i64 (F : Int)] w fun e w' =>
      e = .returned (.tuple #[]) ∧ ∃ n, w' = RW w blk off n (siftDown ltInt hi F lo d) := by
  have HN : Hid (d.size = N) := hN
  clear hN
  have HH : Hid (Holds E64 w blk off d) := hH
  clear hH
  go_enter Tryz.func121, Tryz.ntmps121
  go_wp2
  go_loopw [8] (fun vi wr => ∃ (r n : Nat) (dk : Array Int), vi = .int .i64 (r : Int) ∧ r ≤ hi ∧ Hid (dk.size = d.size) ∧ Hid (wr = RW w blk off n dk) ∧ Hid (siftDown ltInt hi F r dk = siftDown ltInt hi F lo d)) (fun vi _ => hi - natOf vi)
  case atStart => exact ⟨lo, 0, d, rfl, hlo, rfl, (rw_self HH.out).symm, rfl⟩
  case round =>
    obtain ⟨r, n, dk, rfl, hr, HD, HW, HE⟩ := hrel
    obtain ⟨G, hc, hf, hg⟩ := rfam HH.out HN.out HD.out HW.out
    have HG : Hid (∀ t, G t = dk[t]!) := hg
    have HS : Hid (dk.size = N) := HD.out.trans HN.out
    clear hg
    by_cases h1 : 2 * r + 1 < hi
    · obtain ⟨c, hcd⟩ : ∃ c, c = kid hi F r dk := ⟨_, rfl⟩
      have hk := kid_lt (F := F) (d := dk) h1
      rw [← hcd] at hk
      have STOP := fun hl => sift_stop (F := F) (d := dk) h1 hl
      have GO := fun hl => sift_go (F := F) (d := dk) h1 hl
      rw [← hcd, ← HG.out, ← HG.out] at STOP GO
      have HSt : Hid _ := STOP
      have HGo : Hid _ := GO
      clear STOP GO
      have hkid : c = if 2 * r + 2 < hi ∧ ltInt (G (F + (2 * r + 1))) (G (F + (2 * r + 2))) = true then 2 * r + 2 else 2 * r + 1 := by rw [hcd, HG.out, HG.out]; rfl
      have HK : Hid _ := hkid
      clear hkid hcd
      obtain ⟨L1, hL1⟩ : ∃ q, ltInt (G (F + (2 * r + 1))) (G (F + (2 * r + 2))) = q := ⟨_, rfl⟩
      have hL1' : ltInt (G (F + 2 * r + 1)) (G (F + 2 * r + 2)) = L1 := by rw [← hL1]; congr 2
      by_cases h2 : 2 * r + 2 < hi
      case' pos =>
        have h1z : 2 * (r : Int) + 1 + 1 < (hi : Int) := by omega
        cases L1
      case' neg =>
        have h1z : decide (2 * (r : Int) + 1 + 1 < (hi : Int)) = false := decide_eq_false (by omega)
      all_goals
        go_wp2_with fail
        go_quiet (first | (go_at_call 98; refine Calls.quiet_of_same (less _ _ _)))
        go_wp2_with fail
      all_goals
        first
          | (have t1 : ltInt (G (F + (2 * r + 1))) (G (F + (2 * r + 2))) = true := hL1
             have t2 : 2 * (r : Int) + 1 + 1 < (hi : Int) := h1z
             rw [show (2 * (r : Int) + 1 + 1) = ((c : Nat) : Int) by have hce : c = 2 * r + 2 := (by rw [HK.out, if_pos ⟨h2, t1⟩]); omega])
          | rw [show (2 * (r : Int) + 1) = ((c : Nat) : Int) by have hce : c = 2 * r + 1 := (by rw [HK.out, if_neg (by rintro ⟨x1, x2⟩; first | omega | (rw [hL1] at x2; cases x2))]); omega]
        clear hL1 hL1' h1z
        obtain ⟨hk1, hk2⟩ := hk
        have hc2 : ∀ t, t < N → (wr.drewN nq).cell? ⟨blk, off + t, none⟩ = some (.int .u64 (G t)) := hc
        have hf2 : ∀ t, t < N → (wr.drewN nq).frozen? ⟨blk, off + t, none⟩ = false := hf
        obtain ⟨n2, HW2⟩ : ∃ n2, Hid (wr.drewN nq = RW w blk off n2 dk) := ⟨n + nq, by show _ = _; rw [HW.out, rw_drewN]⟩
        clear hc hf HW
        generalize wr.drewN nq = wq at *
        go_wp2_with fail
        go_quiet (first | (go_at_call 98; refine Calls.quiet_of_same (less _ _ _)))
        go_wp2_with fail
        · have hl : ltInt (G (F + r)) (G (F + c)) = false := by simpa using ‹(!ltInt (G (F + r)) (G (F + c))) = true›
          refine bodyPost_ret (results_none rfl _ _ _) rfl ?_
          exact ⟨rfl, n2 + nq, by rw [HW2.out, rw_drewN, ← HE.out, HSt.out hl]⟩
        · have hl : ltInt (G (F + r)) (G (F + c)) = true := by simpa using ‹(!ltInt (G (F + r)) (G (F + c))) = false›
          go_region
          all_goals go_wp2
          go_roundw
          case rel =>
            refine ⟨c, n2 + (nq + 1), swp dk (F + r) (F + c), rfl, by omega, ?_, ?_, ?_⟩
            · show _ = _
              rw [size_swp]; exact HD.out
            · show _ = _
              rw [HW2.out, rw_drewN, HG.out, HG.out]
              exact rw_swap w blk off _ dk (F + r) (F + c) (by rw [HS.out]; omega) (by rw [HS.out]; omega)
            · show _ = _
              rw [← HE.out, HGo.out hl]
          case measure => simp [natOf]; omega
    · go_wp2
      go_end0
      exact ⟨rfl, n, by rw [HW.out, ← HE.out, sift_done (by omega)]⟩
end Go.Proofs.YtkgmcabamhpjhaaGreat.SoSift

namespace Go.Proofs.YtkgmcabamhpjhaaGreat.SoHeap
open Go Go.RowKit Go.Sort SoKit SoSift

theorem build_size (hi F : Nat) : ∀ (k : Nat) (d : Array Int), (heapBuild ltInt hi F k d).size = d.size
  | 0, d => rfl
  | k + 1, d => by rw [heapBuild, build_size hi F k, sift_size hi F _ _ _ (Nat.le_refl _)]
def ctr : Value → Nat | .int _ q => (q + 1).toNat | _ => 0
set_option maxHeartbeats 8000000 in
theorem heap_any (blk off cap a b N : Nat) (d : Array Int) (w : World) (hH : Holds E64 w blk off d) (hN : d.size = N) (hab : a ≤ b) (hb : b ≤ N) (hsz : N < 4611686018427387904) :
    Calls Tryz.prog 93 #[.slice (some ⟨blk, off, none⟩) N cap, .int .i64 (a : Int), .int .i64 (b : Int)] w fun e w' =>
      e = .returned (.tuple #[]) ∧ ∃ n d', w' = RW w blk off n d' ∧ PermIn a b d d' ∧ SortedIn ltInt a b d' := by
  have HSORT : Hid (PermIn a b d (heapSort ltInt d a b) ∧ SortedIn ltInt a b (heapSort ltInt d a b)) := heapSort_holds swo_ltInt d a b hab (by omega)
  have HN : Hid (d.size = N) := hN
  clear hN
  have HH : Hid (Holds E64 w blk off d) := hH
  clear hH
  obtain ⟨L, hL⟩ : ∃ L, L = b - a := ⟨_, rfl⟩
  have e1 : (b : Int) - (a : Int) = (L : Int) := by omega
  have eh : heapSort ltInt d a b = heapPop ltInt a L (heapBuild ltInt L a ((L - 1) / 2 + 1) d) := by unfold heapSort; rw [hL]
  have haL : a + L ≤ N := by omega
  clear hL
  have EH : Hid _ := eh
  clear eh
  have ediv : ((L : Int) - 1).tdiv 2 = (((L - 1) / 2 : Nat) : Int) := by
    rcases Nat.eq_zero_or_pos L with rfl | h
    · rfl
    · rw [show (L : Int) - 1 = ((L - 1 : Nat) : Int) by omega, Int.ofNat_tdiv]; rfl
  obtain ⟨M, hM⟩ : ∃ M, M = (L - 1) / 2 := ⟨_, rfl⟩
  rw [← hM] at ediv
  have hML : M ≤ L := by omega
  have hM2 : Hid (M = (L - 1) / 2) := hM
  clear hM
  have cS : ∀ (lo hi : Nat) (n : Nat) (dk : Array Int), dk.size = N → lo ≤ hi → a + hi ≤ N → Calls Tryz.prog 121 #[.slice (some ⟨blk, off, none⟩) N cap, .int .i64 (lo : Int), .int .i64 (hi : Int), .int .i64 (a : Int)] (RW w blk off n dk) fun e w' =>
      e = .returned (.tuple #[]) ∧ ∃ m, w' = RW w blk off m (siftDown ltInt hi a lo dk) := fun lo hi n dk hs h1 h2 =>
    (sift_any blk off cap lo hi a N dk _ (rw_holds HH.out (hs.trans HN.out.symm)) hs h1 h2 hsz).mono fun e w' ⟨he, m, hw⟩ => ⟨he, _, hw.trans (rw_rw w blk off n m dk _ (sift_size _ _ _ _ _ (Nat.le_refl _)))⟩
  have CS : Hid _ := cS
  clear cS
  go_enter Tryz.func93, Tryz.ntmps93
  go_wp2
  go_loopw [9] (fun vi wr => ∃ (k n : Nat) (dk : Array Int), vi = .int .i64 ((k : Int) - 1) ∧ k ≤ M + 1 ∧ Hid (dk.size = N) ∧ Hid (wr = RW w blk off n dk) ∧ Hid (heapBuild ltInt L a k dk = heapBuild ltInt L a (M + 1) d)) (fun vi _ => ctr vi)
  case atStart => exact ⟨M + 1, 0, d, by congr 1; omega, Nat.le_refl _, HN.out, (rw_self HH.out).symm, rfl⟩
  case round =>
    obtain ⟨k, n, dk, rfl, hk, HD, HW, HE⟩ := hrel
    by_cases h0 : 0 < k
    · obtain ⟨t, rfl⟩ : ∃ t, k = t + 1 := ⟨k - 1, by omega⟩
      have et : ((t + 1 : Nat) : Int) - 1 = (t : Int) := by omega
      rw [et]
      have hc := CS.out t L n dk HD.out (by omega) haL
      rw [← HW.out] at hc
      go_wp2_with (go_at_call 121; refine hc.mono ?_; rintro e w' ⟨rfl, m, rfl⟩)
      go_roundw
      case rel => exact ⟨t, m, _, rfl, by omega, (by show _ = _; rw [sift_size _ _ _ _ _ (Nat.le_refl _)]; exact HD.out), rfl, HE.out⟩
      case measure => simp [ctr]
    · obtain rfl : k = 0 := by omega
      rw [show ((0 : Nat) : Int) - 1 = -1 from rfl]
      go_wp2_with fail
      have HE0 : Hid (dk = heapBuild ltInt L a (M + 1) d) := HE.out
      clear HE
      go_loopw [10] (fun vi wr2 => ∃ (k n : Nat) (dj : Array Int), vi = .int .i64 ((k : Int) - 1) ∧ k ≤ L ∧ Hid (dj.size = N) ∧ Hid (wr2 = RW w blk off n dj) ∧ Hid (heapPop ltInt a k dj = heapSort ltInt d a b)) (fun vi _ => ctr vi)
      case atStart => exact ⟨L, n, dk, by congr 1, Nat.le_refl _, HD.out, HW.out, (by show _ = _; rw [EH.out, HE0.out, hM2.out])⟩
      case round =>
        obtain ⟨k, n, dj, rfl, hk, HD2, HW2, HE2⟩ := hrel
        by_cases h0 : 0 < k
        · obtain ⟨t, rfl⟩ : ∃ t, k = t + 1 := ⟨k - 1, by omega⟩
          have et : ((t + 1 : Nat) : Int) - 1 = (t : Int) := by omega
          rw [et]
          obtain ⟨G, hc, hf, hg⟩ := rfam HH.out HN.out (HD2.out.trans HN.out.symm) HW2.out
          have HG : Hid (∀ t, G t = dj[t]!) := hg
          clear hg
          have hcs := fun (n2 : Nat) (dk2 : Array Int) (hs2 : dk2.size = N) => CS.out 0 t n2 dk2 hs2 (by omega) (by omega)
          have HCS : Hid _ := hcs
          clear hcs
          rcases Nat.eq_zero_or_pos t with rfl | ht
          · have HSW : Hid (((RW w blk off n dj).setCell ⟨blk, off + a, none⟩ (.int .u64 dj[a]!)).setCell ⟨blk, off + a, none⟩ (.int .u64 dj[a]!) = RW w blk off n (swp dj a (a + 0))) := rw_swap w blk off n dj a a (by rw [HD2.out]; omega) (by rw [HD2.out]; omega)
            go_wp2_with fail
            go_region
            go_wp2_with fail
            generalize hwq : World.drew _ = wq
            have HQ : wq = RW w blk off (n + 1) (swp dj a (a + 0)) := by rw [← hwq, HW2.out, HG.out a, HSW.out, rw_drew]
            subst HQ
            clear hwq
            refine (HCS.out (n + 1) (swp dj a (a + 0)) (by rw [size_swp]; exact HD2.out)).mono ?_
            rintro e w' ⟨rfl, m, rfl⟩
            go_wp2_with fail
            go_roundw
            case rel => exact ⟨0, m, _, rfl, by omega, (by show _ = _; rw [sift_size _ _ _ _ _ (Nat.le_refl _), size_swp]; exact HD2.out), rfl, HE2.out⟩
            case measure => simp [ctr]
          · have HSW : Hid (((RW w blk off n dj).setCell ⟨blk, off + a, none⟩ (.int .u64 dj[(a + t)]!)).setCell ⟨blk, off + (a + t), none⟩ (.int .u64 dj[a]!) = RW w blk off n (swp dj a (a + t))) := rw_swap w blk off n dj a (a + t) (by rw [HD2.out]; omega) (by rw [HD2.out]; omega)
            go_wp2_with fail
            go_region
            go_wp2_with fail
            generalize hwq : World.drew _ = wq
            have HQ : wq = RW w blk off (n + 1) (swp dj a (a + t)) := by rw [← hwq, HW2.out, HG.out, HG.out, HSW.out, rw_drew]
            subst HQ
            clear hwq
            refine (HCS.out (n + 1) (swp dj a (a + t)) (by rw [size_swp]; exact HD2.out)).mono ?_
            rintro e w' ⟨rfl, m, rfl⟩
            go_wp2_with fail
            go_roundw
            case rel => exact ⟨t, m, _, rfl, by omega, (by show _ = _; rw [sift_size _ _ _ _ _ (Nat.le_refl _), size_swp]; exact HD2.out), rfl, HE2.out⟩
            case measure => simp [ctr]
        · obtain rfl : k = 0 := by omega
          go_wp2
          go_end0
          exact ⟨rfl, n, dj, HW2.out, by rw [show dj = heapSort ltInt d a b from HE2.out]; exact HSORT.out⟩
end Go.Proofs.YtkgmcabamhpjhaaGreat.SoHeap

namespace Go.Proofs.YtkgmcabamhpjhaaGreat.SoMed
open Go Go.RowKit Go.Sort SoKit

/-- The counter's cell holding s, n draws on. -/
def Cw (w : World) (sb n s : Nat) : World := putRow (Value.int .i64) (Sort.ahead w n) sb 0 #[(s : Int)]
def Cnt (w : World) (sb s : Nat) : Prop := Holds (Value.int .i64) w sb 0 #[(s : Int)]
theorem cw_self {w : World} {sb s : Nat} (h : Cnt w sb s) : Cw w sb 0 s = w := putRow_self _ _ _ _ _ h
theorem cw_cw (w : World) (sb n m s t : Nat) : Cw (Cw w sb n s) sb m t = Cw w sb (n + m) t := putRow_ahead_putRow _ _ _ _ _ _ _ _ rfl
theorem cw_drewN (w : World) (sb n q s : Nat) : (Cw w sb n s).drewN q = Cw w sb (n + q) s := by
  show Sort.ahead (putRow (Value.int .i64) (Sort.ahead w n) sb 0 #[(s : Int)]) q = _
  unfold Cw
  rw [putRow_ahead _ w n, ahead_ahead, ← putRow_ahead]
theorem cnt_cw {w : World} {sb n s t : Nat} (h : Cnt w sb s) : Cnt (Cw w sb n t) sb t := holds_putRow _ _ _ _ #[(s : Int)] _ (holds_ahead _ _ _ _ _ _ h) rfl
theorem cnt_cell {w : World} {sb s : Nat} (h : Cnt w sb s) : w.cell? ⟨sb, 0, none⟩ = some (.int .i64 (s : Int)) ∧ w.frozen? ⟨sb, 0, none⟩ = false := h 0 Nat.zero_lt_one
theorem cw_set {w : World} {sb n s t : Nat} : (Cw w sb n s).setCell ⟨sb, 0, none⟩ (.int .i64 (t : Int)) = Cw w sb n t := putRow_set (Value.int .i64) _ sb 0 #[(s : Int)] 0 (t : Int) Nat.zero_lt_one
theorem row_cw {w : World} {blk off sb n s : Nat} {d : Array Int} (h : Holds E64 w blk off d) (hne : sb ≠ blk) : Holds E64 (Cw w sb n s) blk off d := fun j hj =>
  ⟨by unfold Cw; rw [cell?_putRow_other _ _ _ _ _ _ (Or.inl (Ne.symm hne))]; exact (h j hj).1, by unfold Cw; rw [frozen?_putRow]; exact (h j hj).2⟩

/-- What the four leave. -/
def MPost (w : World) (sb s m : Nat) (Q : Ending → Prop) (e : Ending) (w' : World) : Prop := Q e ∧ ∃ n t, s ≤ t ∧ t ≤ s + m ∧ w' = Cw w sb n t

set_option maxHeartbeats 4000000 in
theorem order2_any (blk off cap a b lo hi sb s N : Nat) (d : Array Int) (w : World) (hH : Holds E64 w blk off d) (hN : d.size = N) (ha : lo ≤ a) (ha2 : a < hi) (hb : lo ≤ b) (hb2 : b < hi) (hhi : hi ≤ N) (_hsz : N < 4611686018427387904) (hC : Cnt w sb s) (hs : s < 1000) :
    Calls Tryz.prog 143 #[.slice (some ⟨blk, off, none⟩) N cap, .int .i64 (a : Int), .int .i64 (b : Int), .pointer (some ⟨sb, 0, none⟩)] w
      (MPost w sb s 1 fun e => ∃ x y : Nat, e = .returned (.tuple #[.int .i64 (x : Int), .int .i64 (y : Int)]) ∧ lo ≤ x ∧ x < hi ∧ lo ≤ y ∧ y < hi) := by
  obtain ⟨G, hG⟩ : ∃ G : Nat → Int, ∀ t, G t = d[t]! := ⟨fun t => d[t]!, fun _ => rfl⟩
  obtain ⟨hc, hf⟩ := rcells hH hN rfl (rw_self hH).symm hG
  obtain ⟨c1, c2⟩ := cnt_cell hC
  have HC : Hid (Cnt w sb s) := hC
  clear hH hN hG hC
  go_enter Tryz.func143, Tryz.ntmps143
  go_wp2_with fail
  go_quiet (first | (go_at_call 98; refine Calls.quiet_of_same (less _ _ _)))
  go_wp2
  · go_ret2
    refine ⟨⟨b, a, rfl, hb, hb2, ha, ha2⟩, nq, s + 1, by omega, by omega, ?_⟩
    rw [← cw_set (s := s), show Cw w sb nq s = (Cw w sb 0 s).drewN nq by rw [cw_drewN, Nat.zero_add], cw_self HC.out]
    rfl
  · go_ret2
    exact ⟨⟨a, b, rfl, ha, ha2, hb, hb2⟩, nq, s, by omega, by omega, by rw [show Cw w sb nq s = (Cw w sb 0 s).drewN nq by rw [cw_drewN, Nat.zero_add], cw_self HC.out]⟩

set_option maxHeartbeats 4000000 in
theorem median_any (blk off cap a b c lo hi sb s N : Nat) (d : Array Int) (w : World) (hH : Holds E64 w blk off d) (hne : sb ≠ blk) (hN : d.size = N) (ha : lo ≤ a) (ha2 : a < hi) (hb : lo ≤ b) (hb2 : b < hi) (hc : lo ≤ c) (hc2 : c < hi) (hhi : hi ≤ N) (hsz : N < 4611686018427387904) (hC : Cnt w sb s) (hs : s < 900) :
    Calls Tryz.prog 123 #[.slice (some ⟨blk, off, none⟩) N cap, .int .i64 (a : Int), .int .i64 (b : Int), .int .i64 (c : Int), .pointer (some ⟨sb, 0, none⟩)] w
      (MPost w sb s 3 fun e => ∃ x : Nat, e = .returned (.int .i64 (x : Int)) ∧ lo ≤ x ∧ x < hi) := by
  have c0 : ∀ (a b n t : Nat), lo ≤ a → a < hi → lo ≤ b → b < hi → t < 1000 → Calls Tryz.prog 143 #[.slice (some ⟨blk, off, none⟩) N cap, .int .i64 (a : Int), .int .i64 (b : Int), .pointer (some ⟨sb, 0, none⟩)] (Cw w sb n t)
      fun e w' => ∃ x y n' t' : Nat, e = .returned (.tuple #[.int .i64 (x : Int), .int .i64 (y : Int)]) ∧ lo ≤ x ∧ x < hi ∧ lo ≤ y ∧ y < hi ∧ t ≤ t' ∧ t' ≤ t + 1 ∧ w' = Cw w sb n' t' := fun a b n t h1 h2 h3 h4 h5 =>
    (order2_any blk off cap a b lo hi sb t N d _ (row_cw hH hne) hN h1 h2 h3 h4 hhi hsz (cnt_cw hC) h5).mono fun e w' ⟨⟨x, y, he, g1, g2, g3, g4⟩, m, t', k1, k2, hw⟩ => ⟨x, y, _, t', he, g1, g2, g3, g4, k1, k2, hw.trans (cw_cw _ _ _ _ _ _)⟩
  have HW : Hid (w = Cw w sb 0 s) := (cw_self hC).symm
  have HC0 : Hid _ := c0
  clear c0 hH hN hC
  have hfst := HC0.out a b 0 s ha ha2 hb hb2 (by omega)
  rw [← HW.out] at hfst
  go_enter Tryz.func123, Tryz.ntmps123
  go_wp2_with fail
  refine hfst.mono ?_
  rintro e w1 ⟨x1, y1, n1, t1, rfl, g1, g2, g3, g4, k1, k2, rfl⟩
  clear hfst
  go_wp2_with fail
  refine (HC0.out y1 c n1 t1 g3 g4 hc hc2 (by omega)).mono ?_
  rintro e w1 ⟨x2, y2, n2, t2, rfl, g5, g6, g7, g8, k3, k4, rfl⟩
  go_wp2_with fail
  refine (HC0.out x1 x2 n2 t2 g1 g2 g5 g6 (by omega)).mono ?_
  rintro e w1 ⟨x3, y3, n3, t3, rfl, g9, g10, g11, g12, k5, k6, rfl⟩
  go_wp2_with fail
  go_ret
  exact ⟨⟨y3, rfl, g11, g12⟩, n3, t3, by omega, by omega, rfl⟩

set_option maxHeartbeats 4000000 in
theorem adj_any (blk off cap a sb s N : Nat) (d : Array Int) (w : World) (hH : Holds E64 w blk off d) (hne : sb ≠ blk) (hN : d.size = N) (ha : 1 ≤ a) (ha2 : a + 1 < N) (hsz : N < 4611686018427387904) (hC : Cnt w sb s) (hs : s < 900) :
    Calls Tryz.prog 122 #[.slice (some ⟨blk, off, none⟩) N cap, .int .i64 (a : Int), .pointer (some ⟨sb, 0, none⟩)] w
      (MPost w sb s 3 fun e => ∃ x : Nat, e = .returned (.int .i64 (x : Int)) ∧ a - 1 ≤ x ∧ x < a + 2) := by
  have c0 := median_any blk off cap (a - 1) a (a + 1) (a - 1) (a + 2) sb s N d w hH hne hN (by omega) (by omega) (by omega) (by omega) (by omega) (by omega) (by omega) hsz hC hs
  rw [show ((a - 1 : Nat) : Int) = (a : Int) - 1 by omega, show ((a + 1 : Nat) : Int) = (a : Int) + 1 by omega] at c0
  clear hH hN hC
  go_enter Tryz.func122, Tryz.ntmps122
  go_wp2_with fail
  refine c0.mono ?_
  rintro e w1 ⟨⟨x, rfl, g1, g2⟩, n, t, k1, k2, rfl⟩
  go_wp2_with fail
  go_ret
  exact ⟨⟨x, rfl, g1, g2⟩, n, t, k1, k2, rfl⟩
end Go.Proofs.YtkgmcabamhpjhaaGreat.SoMed

namespace Go.Proofs.YtkgmcabamhpjhaaGreat.SoPiv
open Go Go.RowKit Go.Sort SoKit SoMed

/-- The counter's new cell, whatever it holds: the old world grown. -/
theorem cw_grow (w : World) (v : Value) (t n s : Nat) : ∃ os, Cw (w.alloc (.cells #[v] t)) w.heap.size n s = Sort.grow (Sort.ahead w n) os := by
  unfold Cw
  rw [alloc_eq_grow, ahead_grow]
  obtain ⟨os, _, h⟩ := putRow_grow_new (Value.int .i64) (Sort.ahead w n) #[.cells #[v] t] w.heap.size 0 #[(s : Int)] (Nat.le_refl _)
  exact ⟨os, h⟩
theorem cnt_new (w : World) (t : Nat) : Cnt (w.alloc (.cells #[.int .i64 0] t)) w.heap.size 0 := fun j hj => by
  obtain rfl : j = 0 := by simpa using hj
  simp
/-- What choosePivot leaves. -/
def VPost (w : World) (a b : Nat) (e : Ending) (w' : World) : Prop := ∃ (p : Nat) (h : Int) (n : Nat) (os : Array Obj), e = .returned (.tuple #[.int .i64 (p : Int), .int .i64 h]) ∧ a ≤ p ∧ p < b ∧ w' = Sort.grow (Sort.ahead w n) os

set_option maxHeartbeats 16000000 in
set_option maxRecDepth 100000 in
theorem piv_any (blk off cap a b N : Nat) (d : Array Int) (w : World) (hH : Holds E64 w blk off d) (hN : d.size = N) (hblk : blk < w.heap.size) (hab : a < b) (hb : b ≤ N) (hsz : N < 4611686018427387904) :
    Calls Tryz.prog 95 #[.slice (some ⟨blk, off, none⟩) N cap, .int .i64 (a : Int), .int .i64 (b : Int)] w (VPost w a b) := by
  have hne : w.heap.size ≠ blk := by omega
  have hH0 : Holds E64 (w.alloc (.cells #[.int .i64 0] 3)) blk off d := by rw [alloc_eq_grow]; exact holds_grow _ _ _ _ _ _ hblk hH
  have hC0 : Cnt (w.alloc (.cells #[.int .i64 0] 3)) w.heap.size 0 := cnt_new w 3
  obtain ⟨Wc, hWc⟩ : ∃ Wc : Nat → Nat → World, ∀ n s, Wc n s = Cw (w.alloc (.cells #[.int .i64 0] 3)) w.heap.size n s := ⟨_, fun _ _ => rfl⟩
  have MA : Hid (∀ (x n s : Nat), a + 1 ≤ x → x + 1 < b → s < 900 → Calls Tryz.prog 122 #[.slice (some ⟨blk, off, none⟩) N cap, .int .i64 (x : Int), .pointer (some ⟨w.heap.size, 0, none⟩)] (Wc n s)
      fun e w' => ∃ y n' s' : Nat, e = .returned (.int .i64 (y : Int)) ∧ a ≤ y ∧ y < b ∧ s ≤ s' ∧ s' ≤ s + 3 ∧ w' = Wc n' s') := fun x n s h1 h2 h3 => by
    rw [hWc]
    exact (adj_any blk off cap x w.heap.size s N d _ (row_cw hH0 hne) hne hN (by omega) (by omega) hsz (cnt_cw hC0) h3).mono fun e w' ⟨⟨y, he, g1, g2⟩, m, t, k1, k2, hw⟩ => ⟨y, n + m, t, he, by omega, by omega, k1, k2, hw.trans ((cw_cw _ _ _ _ _ _).trans (hWc _ _).symm)⟩
  have MD : Hid (∀ (x y z n s : Nat), a ≤ x → x < b → a ≤ y → y < b → a ≤ z → z < b → s < 900 → Calls Tryz.prog 123 #[.slice (some ⟨blk, off, none⟩) N cap, .int .i64 (x : Int), .int .i64 (y : Int), .int .i64 (z : Int), .pointer (some ⟨w.heap.size, 0, none⟩)] (Wc n s)
      fun e w' => ∃ r n' s' : Nat, e = .returned (.int .i64 (r : Int)) ∧ a ≤ r ∧ r < b ∧ s ≤ s' ∧ s' ≤ s + 3 ∧ w' = Wc n' s') := fun x y z n s h1 h2 h3 h4 h5 h6 h7 => by
    rw [hWc]
    exact (median_any blk off cap x y z a b w.heap.size s N d _ (row_cw hH0 hne) hne hN h1 h2 h3 h4 h5 h6 hb hsz (cnt_cw hC0) h7).mono fun e w' ⟨⟨r, he, g1, g2⟩, m, t, k1, k2, hw⟩ => ⟨r, n + m, t, he, g1, g2, k1, k2, hw.trans ((cw_cw _ _ _ _ _ _).trans (hWc _ _).symm)⟩
  have hW0 : w.alloc (.cells #[.int .i64 0] 3) = Wc 0 0 := by rw [hWc, cw_self hC0]
  have hcell : ∀ n s : Nat, (Wc n s).cell? ⟨w.heap.size, 0, none⟩ = some (.int .i64 (s : Int)) := fun n s => by rw [hWc]; exact (cnt_cell (cnt_cw hC0)).1
  have HEND : Hid (∀ (p : Nat) (h : Int) (n s : Nat), a ≤ p → p < b → VPost w a b (.returned (.tuple #[.int .i64 (p : Int), .int .i64 h])) (Wc n s)) := fun p h n s h1 h2 => by
    obtain ⟨os, ho⟩ := cw_grow w (.int .i64 0) 3 n s
    exact ⟨p, h, n, os, rfl, h1, h2, by rw [hWc]; exact ho⟩
  have HD : Hid (∀ (p : Nat) (h : Int) (n s q : Nat), a ≤ p → p < b → VPost w a b (.returned (.tuple #[.int .i64 (p : Int), .int .i64 h])) ((Wc n s).drewN q)) := fun p h n s q h1 h2 => by
    rw [hWc, cw_drewN, ← hWc]; exact HEND.out p h _ s h1 h2
  clear hWc hH hH0 hC0 hN
  obtain ⟨I, hI⟩ : ∃ I : Nat, I = a + (b - a) / 4 * 1 := ⟨_, rfl⟩
  obtain ⟨J, hJ⟩ : ∃ J : Nat, J = a + (b - a) / 4 * 2 := ⟨_, rfl⟩
  obtain ⟨K, hK⟩ : ∃ K : Nat, K = a + (b - a) / 4 * 3 := ⟨_, rfl⟩
  have eI : ((a : Int) + ((b : Int) - (a : Int)) / 4) = (I : Int) := by omega
  have eJ : ((a : Int) + ((b : Int) - (a : Int)) / 4 * 2) = (J : Int) := by omega
  have eK : ((a : Int) + ((b : Int) - (a : Int)) / 4 * 3) = (K : Int) := by omega
  by_cases h8 : b - a ≥ 8
  · by_cases h50 : b - a ≥ 50
    · have q1 : a + 1 ≤ I ∧ I + 1 < b := by omega
      have q2 : a + 1 ≤ J ∧ J + 1 < b := by omega
      have q3 : a + 1 ≤ K ∧ K + 1 < b := by omega
      clear hI hJ hK
      obtain ⟨q1, q1'⟩ := q1
      obtain ⟨q2, q2'⟩ := q2
      obtain ⟨q3, q3'⟩ := q3
      go_enter Tryz.func95, Tryz.ntmps95
      go_wp2_with fail
      refine (MA.out I 0 0 q1 q1' (by omega)).mono ?_
      rintro e w1 ⟨y1, n1, s1, rfl, g1, g2, k1, k2, rfl⟩
      go_wp2_with fail
      refine (MA.out J n1 s1 q2 q2' (by omega)).mono ?_
      rintro e w1 ⟨y2, n2, s2, rfl, g3, g4, k3, k4, rfl⟩
      go_wp2_with fail
      refine (MA.out K n2 s2 q3 q3' (by omega)).mono ?_
      rintro e w1 ⟨y3, n3, s3, rfl, g5, g6, k5, k6, rfl⟩
      go_wp2_with fail
      refine (MD.out y1 y2 y3 n3 s3 g1 g2 g3 g4 g5 g6 (by omega)).mono ?_
      rintro e w1 ⟨y4, n4, s4, rfl, g7, g8, k7, k8, rfl⟩
      go_wp2
      all_goals
        go_ret2
        first | exact HEND.out _ _ _ _ g7 g8 | exact HD.out _ _ _ _ _ g7 g8
    · have q1 : a ≤ I ∧ I < b := by omega
      have q2 : a ≤ J ∧ J < b := by omega
      have q3 : a ≤ K ∧ K < b := by omega
      clear hI hJ hK
      obtain ⟨q1, q1'⟩ := q1
      obtain ⟨q2, q2'⟩ := q2
      obtain ⟨q3, q3'⟩ := q3
      go_enter Tryz.func95, Tryz.ntmps95
      go_wp2_with fail
      refine (MD.out I J K 0 0 q1 q1' q2 q2' q3 q3' (by omega)).mono ?_
      rintro e w1 ⟨y4, n4, s4, rfl, g7, g8, k7, k8, rfl⟩
      go_wp2
      all_goals
        go_ret2
        first | exact HEND.out _ _ _ _ g7 g8 | exact HD.out _ _ _ _ _ g7 g8
  · have q2 : a ≤ J ∧ J < b := by omega
    clear hI hJ hK
    obtain ⟨q2, q2'⟩ := q2
    go_enter Tryz.func95, Tryz.ntmps95
    go_wp2
    all_goals
      go_ret2
      first | exact HEND.out _ _ _ _ q2 q2' | exact HD.out _ _ _ _ _ q2 q2'
end Go.Proofs.YtkgmcabamhpjhaaGreat.SoPiv

