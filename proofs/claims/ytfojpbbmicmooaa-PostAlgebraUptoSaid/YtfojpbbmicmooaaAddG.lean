/- The contracts of pack.filledUp and pack.addGaps: whether the noughts at the end are there; the numbers from the first on, in new memory, or that one of them would pass 2^64 - 1. Conditions: the bits lie within the bytes; lengths bounded. -/
import Derived.Test.YtfojpbbmicmooaaBits
import Derived.Test.YtfojpbbmicmooaaRefPks
namespace Go.Proofs.Ytfojpbbmicmooaa.AddG
open Go Go.RowKit Words Put RefPut PkPlain PkSpec UnSpec PkLay PRise Lay Bits

theorem below_drewN (w : World) (n : Nat) : Below w.heap.size w (w.drewN n) := ⟨rfl, rfl, rfl, Nat.le_refl _, fun _ _ => rfl⟩
theorem last_of (d : List UInt8) (h : 0 < d.length) : num d / 256 ^ (d.length - 1) = (d[d.length - 1]'(by omega)).toNat := by
  rw [← num_at d (d.length - 1) (by omega)]
  have h1 := num_lt d
  rw [Nat.mod_eq_of_lt]
  rw [Nat.div_lt_iff_lt_mul (Nat.pow_pos (by omega)), ← Nat.pow_succ', show (d.length - 1).succ = d.length by omega]
  exact h1
theorem filled_iff {d : List UInt8} {tot low : Nat} (hl : tot = 8 * (d.length - 1) + low) (h : 0 < d.length) : (d[d.length - 1]'(by omega)).toNat / 2 ^ low = 0 ↔ num d < 2 ^ tot := by
  rw [← last_of d h, Nat.div_div_eq_div_mul, Nat.div_eq_zero_iff_lt (Nat.mul_pos (Nat.pow_pos (by omega)) (Nat.two_pow_pos _)), show (256 : Nat) = 2 ^ 8 from rfl, ← Nat.pow_mul, ← Nat.pow_add, ← hl]

def FilPost (d : List UInt8) (tot : Nat) (w : World) (e : Ending) (w' : World) : Prop := (∃ b : Bool, e = .returned (.bool b) ∧ (b = true ↔ num d < 2 ^ tot)) ∧ ∃ nq, w' = w.drewN nq

set_option maxHeartbeats 800000 in
theorem filled_any (d : List UInt8) (A : Option Addr) (c tot : Nat) (w : World) (B : Nat) (hr : Rd w B A (d.map B8)) (hl : d.length ≤ 1048576) (ht : (tot + 7) / 8 = d.length) :
    Calls Try.prog 53 #[.slice A d.length c, .int .i64 (tot : Int)] w (FilPost d tot w) := by
  obtain ⟨low, hlow⟩ : ∃ low, tot % 8 = low := ⟨_, rfl⟩
  have r1 : (tot : Int) % 8 = (low : Int) := by omega
  by_cases h0 : low = 0
  · have HF : Hid (num d < 2 ^ tot) := by
      have h1 := num_lt d
      have h2 : tot = 8 * d.length := by omega
      show num d < 2 ^ tot
      rw [h2, Nat.pow_mul]
      exact h1
    have e1 : ((low : Int) == 0) = true := by subst h0; rfl
    clear h0 hlow hr
    go_enter Try.func53, Try.ntmps53
    go_wp2
    go_ret
    exact ⟨⟨true, rfl, ⟨fun _ => HF.out, fun _ => rfl⟩⟩, 0, rfl⟩
  · have h1 : 0 < d.length := by omega
    have HF := Lib.hid (filled_iff (d := d) (tot := tot) (low := low) (by omega) h1)
    obtain ⟨b, off, rfl, _, hc⟩ := hr (by simp; omega)
    have k1 := cell8 hc (k := d.length - 1) (by omega)
    have hx := (d[d.length - 1]'(by omega)).toNat_lt
    generalize (d[d.length - 1]'(by omega)).toNat = x at *
    have e1 : ((low : Int) == 0) = false := beq_eq_false_iff_ne.2 (by omega)
    have e2 : (0 : Int) ≤ (d.length : Int) - 1 := by omega
    have e3 : ((d.length : Int) - 1).toNat = d.length - 1 := by omega
    have hl8 : low < 8 := by omega
    clear hc h0 hlow
    go_enter Try.func53, Try.ntmps53
    go_wp2
    go_ret
    refine ⟨⟨_, rfl, ?_⟩, 0, rfl⟩
    rw [← HF.out]
    have h9 : (x : Int) / 2 ^ low = ((x / 2 ^ low : Nat) : Int) := by simp
    rw [h9, beq_iff_eq]
    generalize x / 2 ^ low = y
    omega

theorem cuts_more (M W i : Nat) : cuts M W (i + 1) = cuts M W i ++ [M / 2 ^ (i * W) % 2 ^ W] := rfl

/-- The loop: i numbers behind the first are laid. -/
def AddRel (x m W M : Nat) (w : World) (g : Nat) (vi : Value) (wr : World) : Prop := ∃ (i xc : Nat) (L : List UInt64), i ≤ m ∧ vi = .int .i64 ((i : Int) + 1) ∧ xc < 18446744073709551616 ∧ L.length = i ∧ Hid (xc = x + (cuts M W i).sum + (cuts M W i).length) ∧
  Hid (run x (cuts M W i) = some (L ++ [xc.toUInt64])) ∧ wr.ownsRow w.heap.size 31 1 (.slice (some ⟨g, 0, none⟩) (m + 1) (m + 1)) (m + 1) ((L.map B64 ++ [.int .u64 (xc : Int)]) ++ List.replicate (m - i) (.int .u64 0)) ∧ Below w.heap.size w wr

def AddPost (x m W M : Nat) (w : World) (e : Ending) (w' : World) : Prop :=
  (run x (cuts M W m) = none ∧ e = .returned (.tuple #[.slice none 0 0, .bool false]) ∧ Below w.heap.size w w') ∨
  (∃ (L : List UInt64) (v : Value), run x (cuts M W m) = some L ∧ e = .returned (.tuple #[v, .bool true]) ∧ w'.ownsRow w.heap.size 31 1 v (m + 1) (L.map B64) ∧ Below w.heap.size w w')

set_option maxHeartbeats 4000000 in
set_option maxRecDepth 100000 in
theorem add_any (d : List UInt8) (A : Option Addr) (c x m W : Nat) (w : World) (hr : Rd w w.heap.size A (d.map B8)) (hl : d.length ≤ 1048576) (hW : W ≤ 64) (hm : m < 65536) (h1 : 1 ≤ m) (hx : x < 18446744073709551616) (hb : m * W ≤ 8 * d.length) :
    Calls Try.prog 52 #[.slice A d.length c, .int .i64 (W : Int), .int .u64 (x : Int), .int .i64 ((m + 1 : Nat) : Int)] w (AddPost x m W (num d) w) := by
  obtain ⟨i1, gi, gz0, gz1, gz2⟩ := info_parts RefUn2.info_u64
  have HR := Lib.hid hr
  have HMUL : Hid (∀ i : Nat, i < m → (i : Int) * (W : Int) = ((i * W : Nat) : Int) ∧ i * W + W ≤ 8 * d.length) := fun i hi => by
    refine ⟨by simp, ?_⟩
    have := Nat.mul_le_mul_right W (show i + 1 ≤ m by omega)
    rw [Nat.succ_mul] at this
    omega
  have HBT := fun w' (at_ : Nat) hr' ha => Lib.hid (bits_any d A c at_ W w' w.heap.size hr' hl hW ha)
  generalize num d = M at *
  clear hr
  go_enter Try.func52, Try.ntmps52
  have HMZ : Hid ((madeCells (Value.int .u64 0).cells ((m + 1) * 1)).toList = List.replicate (m + 1) (.int .u64 0)) := by
    show _ = _
    simp only [madeCells, Nat.mul_one]
    apply List.ext_getElem
    · simp
    · intro k h1 h2
      simp [Value.cells, Nat.mod_one]
  go_wp2_with (refine wpList_make_full _ rfl _ _ 22 rfl w.heap.size 31 i1 (.int .u64 0) 1 Try.underlying22 gi gz0 gz1 .i64 .i64 _ _ (m + 1) rfl rfl (by omega) (by omega) (by rw [gz2]; omega) (by unfold maxLen; omega) (Nat.le_refl _) ?_; intro w2 hown2 hg2; rw [HMZ.out] at hown2; have c0 : w2.cell? ⟨w.heap.size, 0, none⟩ = some (.int .u64 0) := (hown2.cellAt 0 (by omega)).trans (by simp [List.replicate_succ]); have f0 := hown2.frozenAt 0; have HO2 := Lib.hid hown2; have HB2 := Lib.hid ((Below.refl w.heap.size w).grown hg2 (Nat.le_refl _) (by simp)); clear hown2 hg2)
  go_loopw [11] (fun vi wr => AddRel x m W M w w.heap.size vi wr) (fun v _ => m - (intOf v - 1).toNat)
  case atStart =>
    refine ⟨0, x, [], by omega, rfl, hx, rfl, by show x = _; simp [cuts], rfl, ?_, HB2.out.setCell (Nat.le_refl _) _⟩
    have h9 := (HO2.out.stored 0 (.int .u64 (x : Int))).1
    rw [List.replicate_succ, List.set_cons_zero] at h9
    exact h9
  case round =>
    obtain ⟨i, xc, L, hi, rfl, hxc, hLi, hxe, hrun, hown, hbl⟩ := hrel
    clear HO2 HB2 c0 f0 HMZ
    by_cases hlt : i < m
    · have e4 : (i : Int) + 1 < (m : Int) + 1 := by omega
      have k1 : wr.cell? ⟨w.heap.size, i, none⟩ = some (.int .u64 (xc : Int)) := (hown.cellAt i (by omega)).trans (by
        rw [List.getElem?_append_left (by simp; omega), List.getElem?_append_right (by simp; omega)]
        simp [hLi])
      have k2 : wr.cell? ⟨w.heap.size, i + 1, none⟩ = some (.int .u64 0) := (hown.cellAt (i + 1) (by omega)).trans (by
        rw [List.getElem?_append_right (by simp; omega), List.getElem?_replicate, if_pos (by simp; omega)])
      have f2 := hown.frozenAt (i + 1)
      obtain ⟨hm1, hm2⟩ := HMUL.out i hlt
      have hst := fun u : Value => (hown.stored (i + 1) u).1
      have HSET : Hid (∀ u : Value, ((L.map B64 ++ [Value.int .u64 (xc : Int)]) ++ List.replicate (m - i) (Value.int .u64 0)).set (i + 1) u = (L.map B64 ++ [Value.int .u64 (xc : Int)]) ++ (u :: List.replicate (m - (i + 1)) (Value.int .u64 0))) := fun u => by
        rw [List.set_append_right _ _ (by simp; omega), show m - i = (m - (i + 1)) + 1 by omega, List.replicate_succ]
        simp [hLi]
      have HCALL := HBT wr.drew (i * W) ((HR.out.below hbl).drew) hm2
      have HOWN := Lib.hid hown
      have HBL := Lib.hid hbl
      obtain ⟨D, hD⟩ : ∃ D, M / 2 ^ (i * W) % 2 ^ W = D := ⟨_, rfl⟩
      have hD64 : D < 18446744073709551616 := by
        rw [← hD]
        exact Nat.lt_of_lt_of_le (Nat.mod_lt _ (Nat.two_pow_pos _)) (show 2 ^ W ≤ 2 ^ 64 from Nat.pow_le_pow_right (by omega) hW)
      have HCUT : Hid (cuts M W (i + 1) = cuts M W i ++ [D]) := by
        show cuts M W (i + 1) = _
        rw [cuts, hD]
      have HRUN : Hid (run x (cuts M W (i + 1)) = if 18446744073709551615 - xc ≤ D then none else some ((L ++ [xc.toUInt64]) ++ [(xc + D + 1).toUInt64])) := by
        show run x (cuts M W (i + 1)) = _
        rw [HCUT.out, run_snoc, hrun.out, Option.bind_some, ← hxe.out]
      rw [hD] at HCALL
      have hat : i * W ≤ 9000000 := by omega
      generalize i * W = at_ at *
      obtain ⟨y, hy⟩ : ∃ y, (xc + D + 1) % 18446744073709551616 = y := ⟨_, rfl⟩
      have s1 : IntKind.u64.wrap (IntKind.u64.wrap ((xc : Int) + (D : Int)) + 1) = (y : Int) := by rw [IntKind.wrap_u64, IntKind.wrap_u64]; omega
      have e2 : (0 : Int) ≤ (i : Int) := by omega
      have e3 : (i : Int) < (m : Int) + 1 := by omega
      have e5 : IntKind.i64.wrap ((i : Int) + 1 - 1) = (i : Int) := by rw [show (i : Int) + 1 - 1 = (i : Int) by omega]; exact IntWalk.i64_in _ (by omega)
      have e7 : (0 : Int) ≤ (i : Int) + 1 := by omega
      have e8 : IntKind.i64.wrap (i : Int) = (i : Int) := IntWalk.i64_in _ (by omega)
      have e6 : IntKind.i64.wrap (at_ : Int) = (at_ : Int) := IntWalk.i64_in _ (by omega)
      clear hown hbl hD hst
      go_wp2
      refine wp_region_still_tail 17 (by kernel_rfl) (by kernel_rfl) ?_
      simp only [List.take_succ_cons, List.take_zero, List.drop_succ_cons, List.drop_zero]
      iterate 13 (refine wpStill_step (fun K hK => ?_); go_simp; refine hK _ ?_; clear hK K)
      refine wpStill_step (fun K hK => ?_)
      go_simp
      refine ⟨_, HCALL.out.mono fun _ _ h => ⟨h.1, h.2.symm⟩, hK _ ?_⟩
      clear hK K
      iterate 3 (refine wpStill_step (fun K hK => ?_); go_simp; refine hK _ ?_; clear hK K)
      refine wpStill_nil ?_
      change wpList _ _ _ _ _ wr.drew
      go_wp2
      have HO3 : Hid ((wr.setCell ⟨w.heap.size, i + 1, none⟩ (.int .u64 (y : Int))).drew.ownsRow w.heap.size 31 1 (.slice (some ⟨w.heap.size, 0, none⟩) (m + 1) (m + 1)) (m + 1) ((L.map B64 ++ [Value.int .u64 (xc : Int)]) ++ (Value.int .u64 (y : Int) :: List.replicate (m - (i + 1)) (Value.int .u64 0)))) := by
        have h9 := (HOWN.out.stored (i + 1) (.int .u64 (y : Int))).1.drew
        rw [HSET.out] at h9
        exact h9
      have HB3 := Lib.hid ((HBL.out.setCell (p := ⟨w.heap.size, i + 1, none⟩) (Nat.le_refl _) (.int .u64 (y : Int))).drew)
      generalize (wr.setCell ⟨w.heap.size, i + 1, none⟩ (.int .u64 (y : Int))).drew = wq at *
      have q1 : wq.cell? ⟨w.heap.size, i, none⟩ = some (.int .u64 (xc : Int)) := (HO3.out.cellAt i (by omega)).trans (by
        rw [List.getElem?_append_left (by simp; omega), List.getElem?_append_right (by simp; omega)]
        simp [hLi])
      have q2 : wq.cell? ⟨w.heap.size, i + 1, none⟩ = some (.int .u64 (y : Int)) := (HO3.out.cellAt (i + 1) (by omega)).trans (by
        rw [List.getElem?_append_right (by simp; omega)]
        simp [hLi])
      clear k1 k2 f2 HOWN HBL HSET HCALL s1 e6 hm1
      by_cases hov : 18446744073709551615 - xc ≤ D
      · have e9 : decide ((y : Int) ≤ (xc : Int)) = true := decide_eq_true (by omega)
        have e10 : y ≤ xc := by omega
        rw [if_pos hov] at HRUN
        have HNO : Hid (run x (cuts M W m) = none) := by
          obtain ⟨r, hr9⟩ := cuts_take M W (show i + 1 ≤ m by omega)
          show run x (cuts M W m) = none
          rw [hr9, run_none HRUN.out]
        clear HRUN hrun hxe hy hov
        go_wp2
        go_quiet (fail)
        clear e5 e8
        go_wp2
        go_ret2
        exact .inl ⟨HNO.out, rfl, HB3.out.trans (below_drewN _ _ |>.mono HB3.out.size)⟩
      · have e9 : decide ((y : Int) ≤ (xc : Int)) = false := decide_eq_false (by omega)
        have e10 : xc < y := by omega
        rw [if_neg hov] at HRUN
        have hy2 : y = xc + D + 1 := by omega
        subst hy2
        have hy3 : xc + D + 1 < 18446744073709551616 := by omega
        have HX9 : Hid (xc + D + 1 = x + (cuts M W (i + 1)).sum + (cuts M W (i + 1)).length) := by
          show xc + D + 1 = _
          have h9 := hxe.out
          rw [HCUT.out]
          simp
          omega
        have HLL : Hid ((L ++ [xc.toUInt64]).map B64 = L.map B64 ++ [Value.int .u64 (xc : Int)]) := by
          show _ = _
          simp [B64]
          omega
        have HL9 : (L ++ [xc.toUInt64]).length = i + 1 := by simp [hLi]
        have HL10 := Lib.hid HL9
        clear hrun hxe hy hov HL9
        generalize xc + D + 1 = y at *
        go_wp2
        go_quiet (fail)
        clear e5 e8
        rename_i nq
        go_wp2
        go_roundw
        case rel =>
          refine ⟨i + 1, y, _, by omega, by go_num, hy3, HL10.out, HX9, HRUN, ?_, HB3.out.trans (below_drewN _ _ |>.mono HB3.out.size)⟩
          have h9 : (wq.drewN nq).ownsRow w.heap.size 31 1 _ _ _ := HO3.out
          rw [HLL.out]
          simpa using h9
        case measure => simp [intOf]; omega
    · obtain rfl : i = m := by omega
      have HOWN := Lib.hid hown
      have HBL := Lib.hid hbl
      have HLX : Hid ((L ++ [xc.toUInt64]).map B64 = (L.map B64 ++ [Value.int .u64 (xc : Int)]) ++ List.replicate (i - i) (Value.int .u64 0)) := by
        show _ = _
        simp [B64]
        omega
      clear hown hbl hxe
      go_wp2
      go_ret2
      refine .inr ⟨_, _, hrun.out, rfl, ?_, HBL.out⟩
      rw [HLX.out]
      exact HOWN.out
end Go.Proofs.Ytfojpbbmicmooaa.AddG
