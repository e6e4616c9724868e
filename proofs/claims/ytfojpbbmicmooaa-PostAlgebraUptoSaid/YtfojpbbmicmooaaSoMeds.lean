/- slices.Sort at uint64: order2Ordered, medianOrdered, medianAdjacentOrdered, choosePivotOrdered: they read the row, count in one cell, and answer a place in bounds. Conditions: those of the statements. · slices.Sort at uint64: choosePivotOrdered answers a place of its part of the row. Conditions: those of the statement. -/
import Derived.Test.YtfojpbbmicmooaaSoKit
namespace Go.Proofs.Ytfojpbbmicmooaa.SoMed
open Go Go.RowKit Go.Sort SoKit

/-- The counter's cell holding s, n draws on. -/
def Cw (w : World) (sb n s : Nat) : World := putRow (Value.int .i64) (Sort.ahead w n) sb 0 #[(s : Int)]
def Cnt (w : World) (sb s : Nat) : Prop := Holds (Value.int .i64) w sb 0 #[(s : Int)]
theorem cw_self {w : World} {sb s : Nat} (h : Cnt w sb s) : Cw w sb 0 s = w := putRow_self _ _ _ _ _ h
theorem cw_cw (w : World) (sb n m s t : Nat) : Cw (Cw w sb n s) sb m t = Cw w sb (n + m) t := putRow_ahead_putRow _ _ _ _ _ _ _ _ rfl
theorem cw_drewN (w : World) (sb n q s : Nat) : (Cw w sb n s).drewN q = Cw w sb (n + q) s := by
  show Sort.ahead (putRow (Value.int .i64) (Sort.ahead w n) sb 0 #[(s : Int)]) q = _
  unfold Cw
  rw [putRow_ahead _ w n, ahead_ahead, ← putRow_ahead]
theorem cnt_cw {w : World} {sb n s t : Nat} (h : Cnt w sb s) : Cnt (Cw w sb n t) sb t := holds_putRow _ _ _ _ #[(s : Int)] _ (holds_ahead _ _ _ _ _ _ h) rfl
theorem cnt_cell {w : World} {sb s : Nat} (h : Cnt w sb s) : w.cell? ⟨sb, 0, none⟩ = some (.int .i64 (s : Int)) ∧ w.frozen? ⟨sb, 0, none⟩ = false := h 0 Nat.zero_lt_one
theorem cw_set {w : World} {sb n s t : Nat} : (Cw w sb n s).setCell ⟨sb, 0, none⟩ (.int .i64 (t : Int)) = Cw w sb n t := putRow_set (Value.int .i64) _ sb 0 #[(s : Int)] 0 (t : Int) Nat.zero_lt_one
theorem row_cw {w : World} {blk off sb n s : Nat} {d : Array Int} (h : Holds E64 w blk off d) (hne : sb ≠ blk) : Holds E64 (Cw w sb n s) blk off d := fun j hj =>
  ⟨by unfold Cw; rw [cell?_putRow_other _ _ _ _ _ _ (Or.inl (Ne.symm hne))]; exact (h j hj).1, by unfold Cw; rw [frozen?_putRow]; exact (h j hj).2⟩

/-- What the four leave. -/
def MPost (w : World) (sb s m : Nat) (Q : Ending → Prop) (e : Ending) (w' : World) : Prop := Q e ∧ ∃ n t, s ≤ t ∧ t ≤ s + m ∧ w' = Cw w sb n t

set_option maxHeartbeats 4000000 in
theorem order2_any (blk off cap a b lo hi sb s N : Nat) (d : Array Int) (w : World) (hH : Holds E64 w blk off d) (hN : d.size = N) (ha : lo ≤ a) (ha2 : a < hi) (hb : lo ≤ b) (hb2 : b < hi) (hhi : hi ≤ N) (hsz : N < 4611686018427387904) (hC : Cnt w sb s) (hs : s < 1000) :
    Calls Try.prog 60 #[.slice (some ⟨blk, off, none⟩) N cap, .int .i64 (a : Int), .int .i64 (b : Int), .pointer (some ⟨sb, 0, none⟩)] w
      (MPost w sb s 1 fun e => ∃ x y : Nat, e = .returned (.tuple #[.int .i64 (x : Int), .int .i64 (y : Int)]) ∧ lo ≤ x ∧ x < hi ∧ lo ≤ y ∧ y < hi) := by
  obtain ⟨G, hG⟩ : ∃ G : Nat → Int, ∀ t, G t = d[t]! := ⟨fun t => d[t]!, fun _ => rfl⟩
  obtain ⟨hc, hf⟩ := rcells hH hN rfl (rw_self hH).symm hG
  obtain ⟨c1, c2⟩ := cnt_cell hC
  have HC : Hid (Cnt w sb s) := hC
  clear hH hN hG hC
  go_enter Try.func60, Try.ntmps60
  go_wp2_with fail
  go_quiet (first | (go_at_call 32; refine Calls.quiet_of_same (less _ _ _)))
  go_wp2
  · go_ret2
    refine ⟨⟨b, a, rfl, hb, hb2, ha, ha2⟩, nq, s + 1, by omega, by omega, ?_⟩
    rw [← cw_set (s := s), show Cw w sb nq s = (Cw w sb 0 s).drewN nq by rw [cw_drewN, Nat.zero_add], cw_self HC.out]
    rfl
  · go_ret2
    exact ⟨⟨a, b, rfl, ha, ha2, hb, hb2⟩, nq, s, by omega, by omega, by rw [show Cw w sb nq s = (Cw w sb 0 s).drewN nq by rw [cw_drewN, Nat.zero_add], cw_self HC.out]⟩

set_option maxHeartbeats 4000000 in
theorem median_any (blk off cap a b c lo hi sb s N : Nat) (d : Array Int) (w : World) (hH : Holds E64 w blk off d) (hne : sb ≠ blk) (hN : d.size = N) (ha : lo ≤ a) (ha2 : a < hi) (hb : lo ≤ b) (hb2 : b < hi) (hc : lo ≤ c) (hc2 : c < hi) (hhi : hi ≤ N) (hsz : N < 4611686018427387904) (hC : Cnt w sb s) (hs : s < 900) :
    Calls Try.prog 58 #[.slice (some ⟨blk, off, none⟩) N cap, .int .i64 (a : Int), .int .i64 (b : Int), .int .i64 (c : Int), .pointer (some ⟨sb, 0, none⟩)] w
      (MPost w sb s 3 fun e => ∃ x : Nat, e = .returned (.int .i64 (x : Int)) ∧ lo ≤ x ∧ x < hi) := by
  have c0 : ∀ (a b n t : Nat), lo ≤ a → a < hi → lo ≤ b → b < hi → t < 1000 → Calls Try.prog 60 #[.slice (some ⟨blk, off, none⟩) N cap, .int .i64 (a : Int), .int .i64 (b : Int), .pointer (some ⟨sb, 0, none⟩)] (Cw w sb n t)
      fun e w' => ∃ x y n' t' : Nat, e = .returned (.tuple #[.int .i64 (x : Int), .int .i64 (y : Int)]) ∧ lo ≤ x ∧ x < hi ∧ lo ≤ y ∧ y < hi ∧ t ≤ t' ∧ t' ≤ t + 1 ∧ w' = Cw w sb n' t' := fun a b n t h1 h2 h3 h4 h5 =>
    (order2_any blk off cap a b lo hi sb t N d _ (row_cw hH hne) hN h1 h2 h3 h4 hhi hsz (cnt_cw hC) h5).mono fun e w' ⟨⟨x, y, he, g1, g2, g3, g4⟩, m, t', k1, k2, hw⟩ => ⟨x, y, _, t', he, g1, g2, g3, g4, k1, k2, hw.trans (cw_cw _ _ _ _ _ _)⟩
  have HW : Hid (w = Cw w sb 0 s) := (cw_self hC).symm
  have HC0 : Hid _ := c0
  clear c0 hH hN hC
  have hfst := HC0.out a b 0 s ha ha2 hb hb2 (by omega)
  rw [← HW.out] at hfst
  go_enter Try.func58, Try.ntmps58
  go_wp2_with fail
  refine hfst.mono ?_
  rintro e w1 ⟨x1, y1, n1, t1, rfl, g1, g2, g3, g4, k1, k2, rfl⟩
  clear hfst
  go_wp2_with fail
  refine (HC0.out y1 c n1 t1 g3 g4 hc hc2 (by omega)).mono ?_
  rintro e w1 ⟨x2, y2, n2, t2, rfl, g5, g6, g7, g8, k3, k4, rfl⟩
  go_wp2_with fail
  refine (HC0.out x1 x2 n2 t2 g1 g2 g5 g6 (by omega)).mono ?_
  rintro e w1 ⟨x3, y3, n3, t3, rfl, g9, g10, g11, g12, k5, k6, rfl⟩
  go_wp2_with fail
  go_ret
  exact ⟨⟨y3, rfl, g11, g12⟩, n3, t3, by omega, by omega, rfl⟩

set_option maxHeartbeats 4000000 in
theorem adj_any (blk off cap a sb s N : Nat) (d : Array Int) (w : World) (hH : Holds E64 w blk off d) (hne : sb ≠ blk) (hN : d.size = N) (ha : 1 ≤ a) (ha2 : a + 1 < N) (hsz : N < 4611686018427387904) (hC : Cnt w sb s) (hs : s < 900) :
    Calls Try.prog 57 #[.slice (some ⟨blk, off, none⟩) N cap, .int .i64 (a : Int), .pointer (some ⟨sb, 0, none⟩)] w
      (MPost w sb s 3 fun e => ∃ x : Nat, e = .returned (.int .i64 (x : Int)) ∧ a - 1 ≤ x ∧ x < a + 2) := by
  have c0 := median_any blk off cap (a - 1) a (a + 1) (a - 1) (a + 2) sb s N d w hH hne hN (by omega) (by omega) (by omega) (by omega) (by omega) (by omega) (by omega) hsz hC hs
  rw [show ((a - 1 : Nat) : Int) = (a : Int) - 1 by omega, show ((a + 1 : Nat) : Int) = (a : Int) + 1 by omega] at c0
  clear hH hN hC
  go_enter Try.func57, Try.ntmps57
  go_wp2_with fail
  refine c0.mono ?_
  rintro e w1 ⟨⟨x, rfl, g1, g2⟩, n, t, k1, k2, rfl⟩
  go_wp2_with fail
  go_ret
  exact ⟨⟨x, rfl, g1, g2⟩, n, t, k1, k2, rfl⟩
end Go.Proofs.Ytfojpbbmicmooaa.SoMed

namespace Go.Proofs.Ytfojpbbmicmooaa.SoPiv
open Go Go.RowKit Go.Sort SoKit SoMed

/-- The counter's new cell, whatever it holds: the old world grown. -/
theorem cw_grow (w : World) (v : Value) (t n s : Nat) : ∃ os, Cw (w.alloc (.cells #[v] t)) w.heap.size n s = Sort.grow (Sort.ahead w n) os := by
  unfold Cw
  rw [alloc_eq_grow, ahead_grow]
  obtain ⟨os, _, h⟩ := putRow_grow_new (Value.int .i64) (Sort.ahead w n) #[.cells #[v] t] w.heap.size 0 #[(s : Int)] (Nat.le_refl _)
  exact ⟨os, h⟩
theorem cnt_new (w : World) (t : Nat) : Cnt (w.alloc (.cells #[.int .i64 0] t)) w.heap.size 0 := fun j hj => by
  obtain rfl : j = 0 := by simpa using hj
  simp
/-- What choosePivot leaves. -/
def VPost (w : World) (a b : Nat) (e : Ending) (w' : World) : Prop := ∃ (p : Nat) (h : Int) (n : Nat) (os : Array Obj), e = .returned (.tuple #[.int .i64 (p : Int), .int .i64 h]) ∧ a ≤ p ∧ p < b ∧ w' = Sort.grow (Sort.ahead w n) os

set_option maxHeartbeats 16000000 in
set_option maxRecDepth 100000 in
theorem piv_any (blk off cap a b N : Nat) (d : Array Int) (w : World) (hH : Holds E64 w blk off d) (hN : d.size = N) (hblk : blk < w.heap.size) (hab : a < b) (hb : b ≤ N) (hsz : N < 4611686018427387904) :
    Calls Try.prog 46 #[.slice (some ⟨blk, off, none⟩) N cap, .int .i64 (a : Int), .int .i64 (b : Int)] w (VPost w a b) := by
  have hne : w.heap.size ≠ blk := by omega
  have hH0 : Holds E64 (w.alloc (.cells #[.int .i64 0] 3)) blk off d := by rw [alloc_eq_grow]; exact holds_grow _ _ _ _ _ _ hblk hH
  have hC0 : Cnt (w.alloc (.cells #[.int .i64 0] 3)) w.heap.size 0 := cnt_new w 3
  obtain ⟨Wc, hWc⟩ : ∃ Wc : Nat → Nat → World, ∀ n s, Wc n s = Cw (w.alloc (.cells #[.int .i64 0] 3)) w.heap.size n s := ⟨_, fun _ _ => rfl⟩
  have MA : Hid (∀ (x n s : Nat), a + 1 ≤ x → x + 1 < b → s < 900 → Calls Try.prog 57 #[.slice (some ⟨blk, off, none⟩) N cap, .int .i64 (x : Int), .pointer (some ⟨w.heap.size, 0, none⟩)] (Wc n s)
      fun e w' => ∃ y n' s' : Nat, e = .returned (.int .i64 (y : Int)) ∧ a ≤ y ∧ y < b ∧ s ≤ s' ∧ s' ≤ s + 3 ∧ w' = Wc n' s') := fun x n s h1 h2 h3 => by
    rw [hWc]
    exact (adj_any blk off cap x w.heap.size s N d _ (row_cw hH0 hne) hne hN (by omega) (by omega) hsz (cnt_cw hC0) h3).mono fun e w' ⟨⟨y, he, g1, g2⟩, m, t, k1, k2, hw⟩ => ⟨y, n + m, t, he, by omega, by omega, k1, k2, hw.trans ((cw_cw _ _ _ _ _ _).trans (hWc _ _).symm)⟩
  have MD : Hid (∀ (x y z n s : Nat), a ≤ x → x < b → a ≤ y → y < b → a ≤ z → z < b → s < 900 → Calls Try.prog 58 #[.slice (some ⟨blk, off, none⟩) N cap, .int .i64 (x : Int), .int .i64 (y : Int), .int .i64 (z : Int), .pointer (some ⟨w.heap.size, 0, none⟩)] (Wc n s)
      fun e w' => ∃ r n' s' : Nat, e = .returned (.int .i64 (r : Int)) ∧ a ≤ r ∧ r < b ∧ s ≤ s' ∧ s' ≤ s + 3 ∧ w' = Wc n' s') := fun x y z n s h1 h2 h3 h4 h5 h6 h7 => by
    rw [hWc]
    exact (median_any blk off cap x y z a b w.heap.size s N d _ (row_cw hH0 hne) hne hN h1 h2 h3 h4 h5 h6 hb hsz (cnt_cw hC0) h7).mono fun e w' ⟨⟨r, he, g1, g2⟩, m, t, k1, k2, hw⟩ => ⟨r, n + m, t, he, g1, g2, k1, k2, hw.trans ((cw_cw _ _ _ _ _ _).trans (hWc _ _).symm)⟩
  have hW0 : w.alloc (.cells #[.int .i64 0] 3) = Wc 0 0 := by rw [hWc, cw_self hC0]
  have hcell : ∀ n s : Nat, (Wc n s).cell? ⟨w.heap.size, 0, none⟩ = some (.int .i64 (s : Int)) := fun n s => by rw [hWc]; exact (cnt_cell (cnt_cw hC0)).1
  have HEND : Hid (∀ (p : Nat) (h : Int) (n s : Nat), a ≤ p → p < b → VPost w a b (.returned (.tuple #[.int .i64 (p : Int), .int .i64 h])) (Wc n s)) := fun p h n s h1 h2 => by
    obtain ⟨os, ho⟩ := cw_grow w (.int .i64 0) 3 n s
    exact ⟨p, h, n, os, rfl, h1, h2, by rw [hWc]; exact ho⟩
  have HD : Hid (∀ (p : Nat) (h : Int) (n s q : Nat), a ≤ p → p < b → VPost w a b (.returned (.tuple #[.int .i64 (p : Int), .int .i64 h])) ((Wc n s).drewN q)) := fun p h n s q h1 h2 => by
    rw [hWc, cw_drewN, ← hWc]; exact HEND.out p h _ s h1 h2
  clear hWc hH hH0 hC0 hN
  obtain ⟨I, hI⟩ : ∃ I : Nat, I = a + (b - a) / 4 * 1 := ⟨_, rfl⟩
  obtain ⟨J, hJ⟩ : ∃ J : Nat, J = a + (b - a) / 4 * 2 := ⟨_, rfl⟩
  obtain ⟨K, hK⟩ : ∃ K : Nat, K = a + (b - a) / 4 * 3 := ⟨_, rfl⟩
  have eI : ((a : Int) + ((b : Int) - (a : Int)) / 4) = (I : Int) := by omega
  have eJ : ((a : Int) + ((b : Int) - (a : Int)) / 4 * 2) = (J : Int) := by omega
  have eK : ((a : Int) + ((b : Int) - (a : Int)) / 4 * 3) = (K : Int) := by omega
  by_cases h8 : b - a ≥ 8
  · by_cases h50 : b - a ≥ 50
    · have q1 : a + 1 ≤ I ∧ I + 1 < b := by omega
      have q2 : a + 1 ≤ J ∧ J + 1 < b := by omega
      have q3 : a + 1 ≤ K ∧ K + 1 < b := by omega
      clear hI hJ hK
      obtain ⟨q1, q1'⟩ := q1
      obtain ⟨q2, q2'⟩ := q2
      obtain ⟨q3, q3'⟩ := q3
      go_enter Try.func46, Try.ntmps46
      go_wp2_with fail
      refine (MA.out I 0 0 q1 q1' (by omega)).mono ?_
      rintro e w1 ⟨y1, n1, s1, rfl, g1, g2, k1, k2, rfl⟩
      go_wp2_with fail
      refine (MA.out J n1 s1 q2 q2' (by omega)).mono ?_
      rintro e w1 ⟨y2, n2, s2, rfl, g3, g4, k3, k4, rfl⟩
      go_wp2_with fail
      refine (MA.out K n2 s2 q3 q3' (by omega)).mono ?_
      rintro e w1 ⟨y3, n3, s3, rfl, g5, g6, k5, k6, rfl⟩
      go_wp2_with fail
      refine (MD.out y1 y2 y3 n3 s3 g1 g2 g3 g4 g5 g6 (by omega)).mono ?_
      rintro e w1 ⟨y4, n4, s4, rfl, g7, g8, k7, k8, rfl⟩
      go_wp2
      all_goals
        go_ret2
        first | exact HEND.out _ _ _ _ g7 g8 | exact HD.out _ _ _ _ _ g7 g8
    · have q1 : a ≤ I ∧ I < b := by omega
      have q2 : a ≤ J ∧ J < b := by omega
      have q3 : a ≤ K ∧ K < b := by omega
      clear hI hJ hK
      obtain ⟨q1, q1'⟩ := q1
      obtain ⟨q2, q2'⟩ := q2
      obtain ⟨q3, q3'⟩ := q3
      go_enter Try.func46, Try.ntmps46
      go_wp2_with fail
      refine (MD.out I J K 0 0 q1 q1' q2 q2' q3 q3' (by omega)).mono ?_
      rintro e w1 ⟨y4, n4, s4, rfl, g7, g8, k7, k8, rfl⟩
      go_wp2
      all_goals
        go_ret2
        first | exact HEND.out _ _ _ _ g7 g8 | exact HD.out _ _ _ _ _ g7 g8
  · have q2 : a ≤ J ∧ J < b := by omega
    clear hI hJ hK
    obtain ⟨q2, q2'⟩ := q2
    go_enter Try.func46, Try.ntmps46
    go_wp2
    all_goals
      go_ret2
      first | exact HEND.out _ _ _ _ q2 q2' | exact HD.out _ _ _ _ _ q2 q2'
end Go.Proofs.Ytfojpbbmicmooaa.SoPiv

