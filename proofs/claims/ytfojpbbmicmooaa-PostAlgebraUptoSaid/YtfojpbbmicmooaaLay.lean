/- The contracts of pack.bytesFor, pack.layBits and pack.layGaps: how many bytes so many bits take; a number's bits laid behind another's in a row of the call's own; a rising list's gaps laid in new memory. Conditions: what is laid fits the row; at most 65536 numbers. -/
import Derived.Test.YtfojpbbmicmooaaLens
import Derived.Test.YtfojpbbmicmooaaPkLay
import Derived.Test.YtfojpbbmicmooaaPut
import Derived.Test.YtfojpbbmicmooaaRefOne
import Derived.StillTailTactics
import Derived.RegionTactic
import Derived.BigRegion
import Derived.Deep.RegionWith
namespace Go.Proofs.Ytfojpbbmicmooaa.Lay
open Go Go.RowKit Words Put RefPut PkPlain PkSpec PkLay

theorem ret_int {k : IntKind} {a b : Int} (h : a = b) : Ending.returned (.int k a) = .returned (.int k b) := by rw [h]
theorem bytes_any (n : Nat) (w : World) (h : n ≤ 9000000000000000000) :
    Calls Try.prog 39 #[.int .i64 (n : Int)] w fun e w' => e = .returned (.int .i64 (((n + 7) / 8 : Nat) : Int)) ∧ w = w' := by
  go_enter Try.func39, Try.ntmps39
  go_wp2
  go_ret
  exact ⟨ret_int (by omega), rfl⟩

/-- The loop over the bytes: N is laid below the bit a, m is left. -/
def LRel (g L c T base : Nat) (w : World) (vn va : Value) (wr : World) : Prop := ∃ a m N : Nat, va = .int .i64 (a : Int) ∧ vn = .int .u64 (m : Int) ∧ m < 18446744073709551616 ∧ N < 2 ^ a ∧ a ≤ 8 * L + 8 ∧ Hid (N + m * 2 ^ a = T) ∧ wr.ownsRow base 5 1 (.slice (some ⟨g, 0, none⟩) L c) L ((digs L N).map B8) ∧ Below base w wr

set_option maxHeartbeats 1600000 in
set_option maxRecDepth 100000 in
theorem lay_any (g L c base : Nat) (N n at_ : Nat) (w : World) (hown : w.ownsRow base 5 1 (.slice (some ⟨g, 0, none⟩) L c) L ((digs L N).map B8)) (hN : N < 2 ^ at_) (hT : N + n * 2 ^ at_ < 256 ^ L) (ha : at_ ≤ 8 * L) (hL : L ≤ 1048576) (hn : n < 18446744073709551616) (hg : base ≤ g) (hbw : base ≤ w.heap.size) :
    Calls Try.prog 40 #[.slice (some ⟨g, 0, none⟩) L c, .int .i64 (at_ : Int), .int .u64 (n : Int)] w fun e w' => e = .returned (.tuple #[]) ∧ w'.ownsRow base 5 1 (.slice (some ⟨g, 0, none⟩) L c) L ((digs L (N + n * 2 ^ at_)).map B8) ∧ Below base w w' := by
  obtain ⟨T, hTT⟩ : ∃ T, N + n * 2 ^ at_ = T := ⟨_, rfl⟩
  rw [hTT] at hT ⊢
  go_enter Try.func40, Try.ntmps40
  go_wp2
  go_loopw [1, 2] (fun va vn wr => LRel g L c T base w vn va wr) (fun _ vn _ => (intOf vn).toNat)
  case atStart => exact ⟨at_, n, N, rfl, rfl, hn, hN, by omega, hTT, hown, Below.refl _ _⟩
  case round =>
    obtain ⟨a, m, N, rfl, rfl, hm, hN, ha, hT', hown, hbl⟩ := hrel
    by_cases h0 : 0 < m
    · have haL : a < 8 * L := by
        have h1 := hT'.out
        have h2 : 2 ^ a < 2 ^ (8 * L) := by
          have h3 : 256 ^ L = 2 ^ (8 * L) := by rw [show (256 : Nat) = 2 ^ 8 from rfl, ← Nat.pow_mul]
          have h4 := Nat.le_mul_of_pos_left (2 ^ a) h0
          omega
        exact (Nat.pow_lt_pow_iff_right (by omega)).1 h2
      obtain ⟨low, hlow⟩ : ∃ low, a % 8 = low := ⟨_, rfl⟩
      obtain ⟨j, hj⟩ : ∃ j, a / 8 = j := ⟨_, rfl⟩
      have hjL : j < L := by omega
      have hl8 : low < 8 := by omega
      obtain ⟨lo, x, y, e1, e2, e3, e4, e5, e6, e7, e8, e9⟩ := lay_step (m := m) hj hlow hN
      have k1 := hown.cellAt j (by omega)
      rw [List.getElem?_map, List.getElem?_eq_getElem (show j < (digs L N).length by rw [digs_length]; exact hjL), digs_at hjL, e4] at k1
      have k3 : wr.cell? ⟨g, j, none⟩ = some (.int .u8 (x : Int)) := by
        rw [k1]
        have h1 : x < 256 := by rw [← e4]; exact Nat.mod_lt _ (by omega)
        show some (B8 _) = _
        unfold B8
        congr 2
        simp
        omega
      clear k1
      have hl8' : x < 256 := by rw [← e4]; exact Nat.mod_lt _ (by omega)
      have hv : bits .or .u8 (x : Int) (IntKind.u64.wrap ((m : Int) * 2 ^ low) % 256) = (y : Int) := by
        have h1 : IntKind.u64.wrap ((m : Int) * 2 ^ low) % 256 = ((m * 2 ^ low % 18446744073709551616 % 256 : Nat) : Int) := by
          rw [IntKind.wrap_u64]
          simp
        rw [h1, or_u8 hl8' (Nat.mod_lt _ (by omega)), lay_or e3 hl8, ← e5]
      obtain ⟨d, hd⟩ : ∃ d, 8 - low = d := ⟨_, rfl⟩
      rw [hd] at e5 e7 e8 e9
      have HOWN : Hid ((wr.setCell ⟨g, j, none⟩ (.int .u8 (y : Int))).ownsRow base 5 1 (.slice (some ⟨g, 0, none⟩) L c) L ((digs L (N + 2 ^ a * (m % 2 ^ d))).map B8)) := by
        have h1 := (hown.stored j (B8 y.toUInt8)).1
        have h2 : B8 y.toUInt8 = .int .u8 (y : Int) := by
          unfold B8
          congr 1
          simp
          omega
        rw [h2] at h1
        show World.ownsRow _ _ _ _ _ _ _
        rw [e7, ← digs_set j L lo x y e2 hl8' e6 hjL, ← e1, List.map_set, h2]
        exact h1
      have HBL := Lib.hid (hbl.setCell (p := ⟨g, j, none⟩) hg (.int .u8 (y : Int)))
      have HT2 : Hid (N + 2 ^ a * (m % 2 ^ d) + m / 2 ^ d * 2 ^ (a + d) = T) := e8.trans hT'.out
      have HN2 := Lib.hid e9
      have k2 := hown.frozenAt j
      have r1 : (a : Int) % 8 = (low : Int) := by omega
      have r2 : (a : Int) / 8 = (j : Int) := by omega
      have r4 : (8 : Int) - (low : Int) = (d : Int) := by omega
      have hd1 : (0 : Int) ≤ (d : Int) := by omega
      have hd2 : (d : Int) ≤ 8 := by omega
      have hd3 : d ≤ 8 := by omega
      have hd4 : d < 64 := by omega
      have hm2 : m / 2 ^ d < m := Nat.div_lt_self h0 (Nat.one_lt_two_pow (by omega))
      have hm3 : Hid ((m : Int) / 2 ^ d = ((m / 2 ^ d : Nat) : Int)) := by show (m : Int) / 2 ^ d = _; simp
      have e10 : (0 : Int) ≤ (j : Int) := by omega
      have e11 : (j : Int) < (L : Int) := by omega
      have hab : a + d ≤ 8 * L + 8 := by omega
      clear hj hlow e1 e2 e3 e4 e5 e6 e7 e8 e9 hown hd hbl hT' hN
      go_wp2
      go_region
      generalize HWR : (wr.setCell ⟨g, j, none⟩ (.int .u8 (y : Int))).drew = wq
      have HO2 : Hid (wq.ownsRow base 5 1 (.slice (some ⟨g, 0, none⟩) L c) L ((digs L (N + 2 ^ a * (m % 2 ^ d))).map B8)) := by rw [← HWR]; exact HOWN.out.drew
      have HB2 : Hid (Below base w wq) := by rw [← HWR]; exact HBL.out.drew
      clear HWR HOWN HBL hv k2 k3
      go_wp2
      go_roundw
      case rel => exact ⟨a + d, m / 2 ^ d, _, by go_num, by rw [hm3.out], by omega, HN2.out, hab, HT2, HO2.out, HB2.out⟩
      case measure => simp [intOf]; rw [hm3.out]; omega
    · obtain rfl : m = 0 := by omega
      have h1 := hT'.out
      rw [Nat.zero_mul, Nat.add_zero] at h1
      subst h1
      have HO := Lib.hid hown
      have HB := Lib.hid hbl
      clear hown hbl
      go_wp2
      exact bodyPost_end (by simp [results, Try.results40, go_sem]) rfl ⟨rfl, HO.out, HB.out⟩

/-- The loop over the gaps: i of them are laid. -/
def GapRel (l : List UInt64) (W sz : Nat) (w : World) (A : Option Addr) (v : Value) (wr : World) : Prop := ∃ i : Nat, i + 1 ≤ l.length ∧ v = .int .i64 ((i : Int) + 1) ∧
  wr.ownsRow w.heap.size 5 1 (.slice A sz sz) sz ((digs sz (stack W ((gaps l).take i))).map B8) ∧ Below w.heap.size w wr

set_option maxHeartbeats 1600000 in
set_option maxRecDepth 100000 in
theorem gaps_any (l : List UInt64) (A : Option Addr) (c : Nat) (w : World) (hr : Rd w w.heap.size A (l.map B64)) (hl : l.length ≤ 65536) (h1 : 2 ≤ l.length) (hri : Rising l) :
    Calls Try.prog 28 #[.slice A l.length c, .int .i64 ((wd l : Nat) : Int)] w fun e w' => ∃ v, e = .returned v ∧ w'.ownsRow w.heap.size 5 1 v (size8 l) ((digs (size8 l) (stk l)).map B8) ∧ Below w.heap.size w w' := by
  obtain ⟨i0, hi, hz0, hz1, hz2⟩ := info_parts info_u8
  have HR := Lib.hid hr
  have HRI := Lib.hid hri
  have hW := width_64 l
  have HMORE := Lib.hid (fun i (h : i + 1 < l.length) => stack_more l h)
  have HLT := Lib.hid (fun i (h : i + 1 ≤ l.length) => stack_take_lt l h)
  have HLE := Lib.hid (fun i => stack_take_le (wd l) (gaps l) i)
  have HS8 := Lib.hid (stk_lt8 l)
  have htot : total l ≤ 65536 * 64 := by unfold total; exact Nat.mul_le_mul (by omega) hW
  have HTOT : Hid (((l.length : Int) - 1) * ((wd l : Nat) : Int) = ((total l : Nat) : Int)) := by
    show ((l.length : Int) - 1) * ((wd l : Nat) : Int) = ((total l : Nat) : Int)
    unfold total
    rw [show (l.length : Int) - 1 = ((l.length - 1 : Nat) : Int) by omega]
    simp
  have HBY := fun w' => Lib.hid (bytes_any (total l) w' (by omega))
  have HSZ : Hid ((total l + 7) / 8 = size8 l) := by show _ = _; rfl
  have HMUL : Hid (∀ i : Nat, i + 1 < l.length → (i : Int) * ((wd l : Nat) : Int) = ((i * wd l : Nat) : Int) ∧ i * wd l + wd l ≤ total l) := fun i hi => by
    refine ⟨by simp, ?_⟩
    have := Nat.mul_le_mul_right (wd l) (show i + 1 ≤ l.length - 1 by omega)
    rw [Nat.succ_mul] at this
    exact this
  have hS0 : Hid (stack (wd l) ((gaps l).take (l.length - 1)) = stk l) := by
    show _ = _
    rw [← gaps_length, List.take_length]
    rfl
  have hsz8 : total l ≤ 8 * size8 l := by unfold size8; omega
  have hsz9 : size8 l ≤ 600000 := by unfold size8; omega
  rw [HSZ.out] at HBY
  have hW' : wd l ≤ 64 := hW
  clear hr hri hW
  unfold stk at HS8
  generalize hWd : wd l = W at *
  generalize hTot : total l = tot at *
  generalize hSz : size8 l = sz at *
  have HRT := HTOT.out
  go_enter Try.func28, Try.ntmps28
  go_wp2_with fail
  refine (HBY _).out.mono ?_
  rintro e w1 ⟨rfl, rfl⟩
  have HMZ : Hid ((madeCells (Value.int .u8 0).cells (sz * 1)).toList = (digs sz (stack W ((gaps l).take 0))).map B8) := by
    show _ = _
    rw [List.take_zero, stack, digs_zero]
    simp only [madeCells, Nat.mul_one]
    apply List.ext_getElem
    · simp
    · intro k h1 h2
      simp [B8, Value.cells, Nat.mod_one]
  go_wp2_with (refine wpList_make_full _ rfl _ _ 24 rfl w.heap.size 5 i0 (.int .u8 0) 1 Try.underlying24 hi hz0 hz1 .i64 .i64 _ _ sz rfl rfl rfl rfl (by rw [hz2]; omega) (by unfold maxLen; omega) (Nat.le_refl _) ?_; intro w2 hown2 hg2)
  have HB2 := Lib.hid ((Below.refl w.heap.size w).grown hg2 (Nat.le_refl _) (by simp))
  rw [HMZ.out] at hown2
  have HO2 := Lib.hid hown2
  clear hown2 hg2 HMZ
  go_wp2
  go_loopw [6] (fun v wr => GapRel l W sz w (some ⟨w.heap.size, 0, none⟩) v wr) (fun v _ => l.length - (intOf v - 1).toNat)
  case atStart => exact ⟨0, by omega, rfl, HO2.out, HB2.out⟩
  case round =>
    obtain ⟨i, hi', rfl, hown, hbl⟩ := hrel
    have HO := Lib.hid hown
    have HB := Lib.hid hbl
    clear HO2 HB2
    by_cases hlt : i + 1 < l.length
    · obtain ⟨b, off, rfl, hbb, hc⟩ := HR.out (by simp; omega)
      have k1 := (hbl.cell (p := ⟨b, off + (i + 1), none⟩) hbb).trans (cell64 hc hlt)
      have k2 := (hbl.cell (p := ⟨b, off + i, none⟩) hbb).trans (cell64 hc (k := i) (by omega))
      have hx := l[i].toNat_lt
      have hy := l[i + 1].toNat_lt
      have hxy := HRI.out i hlt hlt
      have HN := Lib.hid (HMORE.out i hlt)
      generalize l[i].toNat = x at *
      generalize l[i + 1].toNat = y at *
      obtain ⟨hm1, hm2⟩ := HMUL.out i hlt
      have hN1 := HLT.out i (by omega)
      have hN2 := HLE.out (i + 1)
      rw [HN.out] at hN2
      have HCALL := fun wq hq hq2 => Lib.hid (lay_any w.heap.size sz sz w.heap.size (stack W ((gaps l).take i)) (y - x - 1) (i * W) wq hq hN1 (by have := HS8.out; omega) (by omega) (by omega) (by omega) (Nat.le_refl _) hq2)
      generalize stack W ((gaps l).take i) = Ni at *
      generalize i * W = at_ at *
      have s1 : IntKind.u64.wrap ((y : Int) - (x : Int)) = ((y - x : Nat) : Int) := by rw [IntKind.wrap_u64]; omega
      have s2 : IntKind.u64.wrap (((y - x : Nat) : Int) - 1) = ((y - x - 1 : Nat) : Int) := by rw [IntKind.wrap_u64]; omega
      have hat : (at_ : Int) ≤ 4194304 := by omega
      clear hc hown hbl hN1 hN2
      have e2 : (0 : Int) ≤ (i : Int) := by omega
      have e3 : (i : Int) < (l.length : Int) := by omega
      have e4 : (i : Int) + 1 < (l.length : Int) := by omega
      have e5 : IntKind.i64.wrap ((i : Int) + 1 - 1) = (i : Int) := by rw [show (i : Int) + 1 - 1 = (i : Int) by omega]; exact IntWalk.i64_in _ (by omega)
      have e7 : (0 : Int) ≤ (i : Int) + 1 := by omega
      have e8 : IntKind.i64.wrap (i : Int) = (i : Int) := IntWalk.i64_in _ (by omega)
      have e6 : IntKind.i64.wrap (at_ : Int) = (at_ : Int) := IntWalk.i64_in _ (by omega)
      go_wp2
      refine wp_region_still_tail 16 (by kernel_rfl) (by kernel_rfl) ?_
      simp only [List.take_succ_cons, List.take_zero, List.drop_succ_cons, List.drop_zero]
      iterate 16 (refine wpStill_step (fun K hK => ?_); go_simp; refine hK _ ?_; clear hK K)
      refine wpStill_nil ?_
      change wpList _ _ _ _ _ wr.drew
      go_wp2_with fail
      refine (HCALL wr.drew HO.out.drew HB.out.size).out.mono ?_
      rintro e w3 ⟨rfl, hown3, hbl3⟩
      have HO3 := Lib.hid hown3
      have HB3 := Lib.hid (HB.out.drew.trans hbl3)
      clear hown3 hbl3
      rw [← HN.out] at HO3
      clear e5 e6 e8 s1 s2 hm1 HCALL HO HB k1 k2
      go_wp2
      go_roundw
      case rel => exact ⟨i + 1, by omega, by go_num, HO3.out, HB3.out⟩
      case measure => simp [intOf]; omega
    · obtain rfl : i = l.length - 1 := by omega
      have hown' := HO.out
      rw [hS0.out] at hown'
      have HO' := Lib.hid hown'
      clear hown hbl hown' HO
      go_wp2
      go_ret
      exact ⟨_, rfl, HO'.out, HB.out⟩
end Go.Proofs.Ytfojpbbmicmooaa.Lay
