/- slices.Sort at uint64: xorshift.Next, nextPowerOfTwo, breakPatternsOrdered (its part of the row is permuted). Conditions: those of the statements. -/
import Derived.Test.YtkgmcabamhpjhaaGreatSoKits
import Derived.Laws.Bits64
import Derived.Laws.Bits64b
namespace Go.Proofs.YtkgmcabamhpjhaaGreat.SoBrk
open Go Go.RowKit Go.Sort SoKit PkPlain

theorem two_sets (w : World) (b o : Nat) (v v' : Value) : (w.setCell ⟨b, o, none⟩ v).setCell ⟨b, o, none⟩ v' = w.setCell ⟨b, o, none⟩ v' := by
  rw [Go.Sort.setCell_eq, Go.Sort.setCell_eq, mapBlock_mapBlock, Go.Sort.setCell_eq]
  congr 1
  funext c
  simp
set_option maxHeartbeats 4000000 in
theorem next_any (rb X : Nat) (hX : X < 18446744073709551616) (w : World) (hc : w.cell? ⟨rb, 0, none⟩ = some (.int .u64 (X : Int))) (hf : w.frozen? ⟨rb, 0, none⟩ = false) :
    Calls Tryz.prog 118 #[.pointer (some ⟨rb, 0, none⟩)] w fun e w' => ∃ Y q : Nat, Y < 18446744073709551616 ∧ e = .returned (.int .u64 (Y : Int)) ∧ w' = (w.setCell ⟨rb, 0, none⟩ (.int .u64 (Y : Int))).drewN q := by
  obtain ⟨A, hA⟩ : ∃ A : Nat, A = X ^^^ (X * 8192 % 18446744073709551616) := ⟨_, rfl⟩
  obtain ⟨B, hB⟩ : ∃ B : Nat, B = A ^^^ (A / 128) := ⟨_, rfl⟩
  obtain ⟨C, hC⟩ : ∃ C : Nat, C = B ^^^ (B * 131072 % 18446744073709551616) := ⟨_, rfl⟩
  have lA : A < 18446744073709551616 := by rw [hA]; exact Nat.xor_lt_two_pow (n := 64) (by omega) (by omega)
  have lB : B < 18446744073709551616 := by rw [hB]; exact Nat.xor_lt_two_pow (n := 64) (by omega) (by omega)
  have lC : C < 18446744073709551616 := by rw [hC]; exact Nat.xor_lt_two_pow (n := 64) (by omega) (by omega)
  have e1 : bits .xor .u64 (X : Int) (IntKind.u64.wrap ((X : Int) * 8192)) = (A : Int) := by
    rw [IntKind.wrap_u64, show ((X : Int) * 8192 % 18446744073709551616) = ((X * 8192 % 18446744073709551616 : Nat) : Int) by omega, bits_xor_u64_nat _ _ hX (by omega), hA]
  have e2 : bits .xor .u64 (A : Int) ((A : Int) / 128) = (B : Int) := by
    rw [show ((A : Int) / 128) = ((A / 128 : Nat) : Int) by omega, bits_xor_u64_nat _ _ lA (by omega), hB]
  have e3 : bits .xor .u64 (B : Int) (IntKind.u64.wrap ((B : Int) * 131072)) = (C : Int) := by
    rw [IntKind.wrap_u64, show ((B : Int) * 131072 % 18446744073709551616) = ((B * 131072 % 18446744073709551616 : Nat) : Int) by omega, bits_xor_u64_nat _ _ lB (by omega), hC]
  clear hA hB hC
  have hss := two_sets w rb 0
  go_enter Tryz.func118, Tryz.ntmps118
  go_wp2_with fail
  go_region
  go_wp2_with fail
  all_goals go_region
  all_goals go_wp2_with fail
  all_goals go_region
  all_goals go_wp2
  go_ret
  exact ⟨C, 3, lC, rfl, rfl⟩

/-- The greatest power of two that bits.Len says. -/
theorem need_two {n : Nat} (h : 0 < n) : 2 ^ need n ≤ 2 * n := by
  induction n using Nat.strongRecOn with
  | _ n ih =>
    rw [need_half n (by omega)]
    by_cases h1 : n / 2 = 0
    · rw [h1, need_zero]; omega
    · have := ih (n / 2) (by omega) (by omega)
      rw [Nat.pow_succ]
      omega
theorem wrap_pow (k : Nat) (hk : k ≤ 62) : IntKind.u64.wrap ((2 : Int) ^ k) = ((2 ^ k : Nat) : Int) := by
  have h : (2 : Nat) ^ k ≤ 2 ^ 62 := Nat.pow_le_pow_right (by decide) hk
  rw [IntKind.wrap_u64, show ((2 : Int) ^ k) = ((2 ^ k : Nat) : Int) by push_cast; rfl]
  generalize (2 : Nat) ^ k = p at h
  omega
theorem len2 (n : Nat) (w : World) (h : n < 18446744073709551616) : Calls Tryz.prog 54 #[.int .u64 (n : Int)] w fun e w' => e = .returned (.int .i64 ((need n : Nat) : Int)) ∧ w = w' := by
  have HL := Len.len_any n w h
  go_enter Tryz.func54, Tryz.ntmps54
  go_wp2_with fail
  refine HL.mono ?_
  rintro e w' ⟨rfl, rfl⟩
  go_wp2
  go_ret
  exact ⟨rfl, rfl⟩
theorem pow_any (n : Nat) (w : World) (h0 : 0 < n) (hn : n < 4611686018427387904) : Calls Tryz.prog 117 #[.int .i64 (n : Int)] w fun e w' => ∃ M : Nat, 1 ≤ M ∧ M ≤ 2 * n ∧ e = .returned (.int .u64 (M : Int)) ∧ w' = w := by
  have hk : need n ≤ 62 := (need_le n 62).2 (by omega)
  have h2 := need_two h0
  have hp := wrap_pow (need n) hk
  have hL := len2 n w (by omega)
  obtain ⟨k, hkk⟩ : ∃ k, k = need n := ⟨_, rfl⟩
  rw [← hkk] at hk h2 hp hL
  clear hkk
  have H2 : Hid (1 ≤ 2 ^ k ∧ 2 ^ k ≤ 2 * n) := ⟨Nat.two_pow_pos _, h2⟩
  clear h2
  go_enter Tryz.func117, Tryz.ntmps117
  go_wp2_with fail
  refine hL.mono ?_
  rintro e w' ⟨rfl, rfl⟩
  go_wp2
  go_ret
  exact ⟨2 ^ k, H2.out.1, H2.out.2, rfl, rfl⟩

/-! ### The world with the random number's cell -/
/-- The row as in RW, and a new block of one cell behind the heap. -/
def BW (w : World) (blk off n : Nat) (d : Array Int) (t : Nat) (r : Nat) : World := Sort.grow (RW w blk off n d) #[Obj.cells #[.int .u64 (r : Int)] t]
theorem bw_start {w : World} {blk off t r : Nat} {d : Array Int} (h : Holds E64 w blk off d) : w.alloc (.cells #[.int .u64 (r : Int)] t) = BW w blk off 0 d t r := by unfold BW; rw [rw_self h, alloc_eq_grow]
theorem bw_drewN (w : World) (blk off n q : Nat) (d : Array Int) (t r : Nat) : (BW w blk off n d t r).drewN q = BW w blk off (n + q) d t r := by
  unfold BW; rw [← rw_drewN]; rfl
theorem bw_cell {w : World} {blk off n : Nat} {d : Array Int} {t r : Nat} : (BW w blk off n d t r).cell? ⟨w.heap.size, 0, none⟩ = some (.int .u64 (r : Int)) ∧ (BW w blk off n d t r).frozen? ⟨w.heap.size, 0, none⟩ = false := by
  have e : (RW w blk off n d).heap.size = w.heap.size := rw_size _ _ _ _ _
  unfold BW
  rw [← alloc_eq_grow, ← e]
  constructor <;> simp
theorem bw_next {w : World} {blk off n : Nat} {d : Array Int} {t r s : Nat} : (BW w blk off n d t r).setCell ⟨w.heap.size, 0, none⟩ (.int .u64 (s : Int)) = BW w blk off n d t s := by
  have e : (RW w blk off n d).heap.size = w.heap.size := rw_size _ _ _ _ _
  unfold BW
  rw [Go.Sort.setCell_eq, ← e, mapBlock_grow_new _ _ _ _ (Nat.le_refl _)]
  congr 1
  apply Array.ext_getElem?
  intro k
  simp only [Array.getElem?_modify, Nat.sub_self]
  cases k with
  | zero => simp [onCells]
  | succ k => simp
theorem bw_cells {w wr : World} {blk off n N : Nat} {d dk : Array Int} {t r : Nat} {G : Nat → Int} (hH : Holds E64 w blk off d) (hN : d.size = N) (hblk : blk < w.heap.size) (hs : dk.size = d.size) (hw : wr = BW w blk off n dk t r) (hG : ∀ x, G x = dk[x]!) :
    (∀ x, x < N → wr.cell? ⟨blk, off + x, none⟩ = some (.int .u64 (G x))) ∧ ∀ x, x < N → wr.frozen? ⟨blk, off + x, none⟩ = false := by
  subst hw
  obtain ⟨h1, h2⟩ := rcells hH hN hs rfl hG
  have e : blk < (RW w blk off n dk).heap.size := by rw [rw_size]; exact hblk
  exact ⟨fun x hx => by unfold BW; rw [cell?_grow _ _ _ e]; exact h1 x hx, fun x hx => by unfold BW; rw [frozen?_grow _ _ _ e]; exact h2 x hx⟩
theorem gset (w : World) (os : Array Obj) (blk o : Nat) (v : Value) (h : blk < w.heap.size) : (Sort.grow w os).setCell ⟨blk, o, none⟩ v = Sort.grow (w.setCell ⟨blk, o, none⟩ v) os := by
  rw [Go.Sort.setCell_eq, mapBlock_grow _ _ _ _ h, ← Go.Sort.setCell_eq]
theorem bw_swap {w : World} {blk off n N : Nat} {dk : Array Int} {t r : Nat} (hblk : blk < w.heap.size) (hs : dk.size = N) (i j : Nat) (hi : i < N) (hj : j < N) :
    ((BW w blk off n dk t r).setCell ⟨blk, off + i, none⟩ (.int .u64 dk[j]!)).setCell ⟨blk, off + j, none⟩ (.int .u64 dk[i]!) = BW w blk off n (swp dk i j) t r := by
  have e : blk < (RW w blk off n dk).heap.size := by rw [rw_size]; exact hblk
  unfold BW
  rw [gset _ _ _ _ _ e, gset _ _ _ _ _ (by simpa [Go.Sort.setCell_eq, mapBlock] using e), rw_swap w blk off n dk i j (by omega) (by omega)]

set_option maxHeartbeats 16000000 in
set_option maxRecDepth 100000 in
theorem brk_any (blk off cap a b N : Nat) (d : Array Int) (w : World) (hH : Holds E64 w blk off d) (hN : d.size = N) (hblk : blk < w.heap.size) (hab : a ≤ b) (hb : b ≤ N) (hsz : N < 4611686018427387904) :
    Calls Tryz.prog 94 #[.slice (some ⟨blk, off, none⟩) N cap, .int .i64 (a : Int), .int .i64 (b : Int)] w fun e w' =>
      e = .returned (.tuple #[]) ∧ ∃ n os d', w' = Sort.grow (RW w blk off n d') os ∧ PermIn a b d d' := by
  have HN : Hid (d.size = N) := hN
  have HSELF : Hid (w = RW w blk off 0 d) := (rw_self hH).symm
  obtain ⟨L, hL⟩ : ∃ L, L = b - a := ⟨_, rfl⟩
  have e1 : (b : Int) - (a : Int) = (L : Int) := by omega
  by_cases h8 : 8 ≤ L
  · obtain ⟨i0, hi0⟩ : ∃ i0, i0 = a + L / 4 * 2 - 1 := ⟨_, rfl⟩
    have e2 : (a : Int) + (L : Int) / 4 * 2 - 1 = (i0 : Int) := by omega
    have e2' : (a : Int) + (L : Int) / 4 * 2 = (i0 : Int) + 1 := by omega
    have hi1 : a ≤ i0 := by omega
    have hi2 : i0 + 2 < b := by omega
    have haL : a + L = b := by omega
    clear hi0 hL
    have HST : Hid (w.alloc (.cells #[.int .u64 (L : Int)] 141) = BW w blk off 0 d 141 L) := bw_start hH
    have HP : Hid (∀ w, Calls Tryz.prog 117 #[.int .i64 (L : Int)] w fun e w' => ∃ M : Nat, 1 ≤ M ∧ M ≤ 2 * L ∧ e = .returned (.int .u64 (M : Int)) ∧ w' = w) := fun w => pow_any L w (by omega) (by omega)
    have HH : Hid (Holds E64 w blk off d) := hH
    clear hH hN
    go_enter Tryz.func94, Tryz.ntmps94
    go_wp2_with fail
    refine (HP.out _).mono ?_
    rintro e w1 ⟨M, hM1, hM2, rfl, rfl⟩
    go_wp2_with fail
    go_loopw [9] (fun vi wr => ∃ (ix n r : Nat) (dk : Array Int), vi = .int .i64 (ix : Int) ∧ i0 ≤ ix ∧ ix ≤ i0 + 3 ∧ r < 18446744073709551616 ∧ Hid (wr = BW w blk off n dk 141 r) ∧ Hid (PermIn a b d dk)) (fun vi _ => i0 + 3 - natOf vi)
    case atStart => exact ⟨i0, 0, L, d, rfl, by omega, by omega, by omega, HST, permIn_refl _ _ _⟩
    case round =>
      clear HST
      obtain ⟨ix, n, r, dk, rfl, ht0, ht, hr, HW, HQ⟩ := hrel
      by_cases h3 : ix < i0 + 3
      · have hNx := next_any w.heap.size r hr wr (by rw [HW.out]; exact bw_cell.1) (by rw [HW.out]; exact bw_cell.2)
        have hds : dk.size = d.size := HQ.out.1
        obtain ⟨G, hG⟩ : ∃ G : Nat → Int, ∀ t, G t = dk[t]! := ⟨fun t => dk[t]!, fun _ => rfl⟩
        have HD : Hid (dk.size = d.size) := hds
        have HG : Hid _ := hG
        clear hds hG
        go_wp2_with fail
        refine hNx.mono ?_
        clear hNx
        rintro e w1 ⟨R, q, hR, rfl, hw1⟩
        have HW1 : Hid (w1 = BW w blk off (n + q) dk 141 R) := by show _ = _; rw [hw1, HW.out, bw_next, bw_drewN]
        clear hw1
        obtain ⟨O, hO⟩ : ∃ O : Nat, O = R &&& (M - 1) := ⟨_, rfl⟩
        have lO : O ≤ M - 1 := by rw [hO]; exact Nat.and_le_right
        have eAnd : bits .and .u64 (R : Int) ((M : Int) - 1) = (O : Int) := by
          rw [show ((M : Int) - 1) = ((M - 1 : Nat) : Int) by omega, bits_and_u64_nat _ _ hR (by omega), hO]
        clear hO
        obtain ⟨hc, hf⟩ := bw_cells HH.out HN.out hblk HD.out HW1.out HG.out
        have hidx : ix < N := by omega
        have hO64 : O < 9223372036854775808 := by omega
        obtain ⟨X, hX⟩ : ∃ X : Nat, X = if L ≤ O then O - L else O := ⟨_, rfl⟩
        have hXL : X < L := by rw [hX]; split <;> omega
        have haX : a + X < N := by omega
        have HSW : Hid (((BW w blk off (n + q) dk 141 R).setCell ⟨blk, off + ix, none⟩ (.int .u64 (G (a + X)))).setCell ⟨blk, off + (a + X), none⟩ (.int .u64 (G ix)) = BW w blk off (n + q) (swp dk ix (a + X)) 141 R) := by
          show _ = _; rw [HG.out, HG.out]; exact bw_swap hblk (HD.out.trans HN.out) ix (a + X) hidx haX
        have HZ : Hid (PermIn a b d (swp dk ix (a + X))) := permIn_trans _ _ _ _ _ HQ.out (swp_permIn _ _ _ _ _ (by omega) (by omega) (by omega) (by omega) (by rw [HD.out, HN.out]; exact hb))
        have fin : ∀ q2 : Nat, ∃ (ix' n' r' : Nat) (dk' : Array Int), Value.int .i64 ((ix : Int) + 1) = .int .i64 (ix' : Int) ∧ i0 ≤ ix' ∧ ix' ≤ i0 + 3 ∧ r' < 18446744073709551616 ∧ Hid ((BW w blk off (n + q) (swp dk ix (a + X)) 141 R).drewN q2 = BW w blk off n' dk' 141 r') ∧ Hid (PermIn a b d dk') := fun q2 =>
          ⟨ix + 1, n + q + q2, R, _, by go_num, by omega, by omega, hR, by show _ = _; rw [bw_drewN], HZ⟩
        have FIN : Hid _ := fin
        clear fin
        by_cases hLO : L ≤ O
        case' pos => have eX : (O : Int) - (L : Int) = (X : Int) := by rw [hX, if_pos hLO]; omega
        case' neg => obtain rfl : X = O := by rw [hX, if_neg hLO]
        all_goals
          clear hX
          rcases Nat.lt_trichotomy ix (a + X) with hne | rfl | hne
          all_goals
            go_wp2_with fail
            go_region
            go_wp2_with fail
            go_roundw
            case rel =>
              first
                | (have := FIN.out 1; rw [← HSW.out, ← HW1.out] at this; exact this)
                | (have := FIN.out 0; rw [← HSW.out, ← HW1.out] at this; exact this)
            case measure => simp [natOf]; omega
      · obtain rfl : ix = i0 + 3 := by omega
        go_wp2
        go_end0
        exact ⟨rfl, n, _, dk, HW.out, HQ.out⟩
  · clear hL
    have HH : Hid (Holds E64 w blk off d) := hH
    clear hH hN
    go_enter Tryz.func94, Tryz.ntmps94
    go_wp2
    go_end0
    exact ⟨rfl, 0, #[], d, by rw [grow_empty]; exact HSELF.out, permIn_refl _ _ _⟩
end Go.Proofs.YtkgmcabamhpjhaaGreat.SoBrk
