/- LzLays: for all bytes whose bulk with two small numbers is at most 1048576 the statement's function answers true and leaves its arguments as they were. Condition: that bound. -/
import Derived.Test.YtifndcjjlhjgiaaLzRuns
import Derived.JoinedCond
namespace Go.Proofs.Ytifndcjjlhjgiaa.lzLays
open Go Go.ChangeShapes Go.WideShapes Go.ChangeAt Go.RowKit Words Plain Put Own App LaySpec CompSpec Expand RefExp Comp Awake4 lzBack lzRuns Ope Bulk Find

/-! ### a literal and an echo behind it, in plain lists -/
theorem lays_exp {l : List UInt8} {d : Nat} {k : Nat} (h0 : 0 < l.length) (hl : l.length ≤ 1000) (hd1 : 1 ≤ d) (hd2 : d ≤ l.length) (hk4 : 4 ≤ k) (hk : k ≤ 63) {most : Int} (hm : ((l.length + k : Nat) : Int) ≤ most) : exp (Lib.uvarint (l.length + k) ++ Lib.uvarint (2 * l.length) ++ l ++ (Lib.uvarint (2 * k + 1) ++ Lib.uvarint d)) most = (0, echoN d k l) := by
  have hne : l ≠ [] := List.length_pos_iff.1 h0
  have hp : plainP l = Lib.uvarint (2 * l.length) ++ l := by unfold plainP; rw [if_neg hne]
  have h1 := lay_plain (size := l.length + k) (l := []) (rest := Lib.uvarint (2 * k + 1) ++ Lib.uvarint d) (x := l) (by simp) (by omega)
  have h2 := lay_echo (size := l.length + k) (l := l) (rest := []) (n := k) (d := d) hk4 (Nat.le_refl _) (by omega) hd1 hd2
  unfold exp
  rw [List.append_assoc, List.append_assoc, dec_uv _ _ (by omega), if_neg (by simp)]
  simp only
  rw [if_neg (by omega), List.drop_left, ← List.append_assoc, ← hp, h1, List.nil_append]
  rw [List.append_nil] at h2
  rw [h2, lay_nil, echoN_length, if_neg (by omega)]
theorem lays_less {l : List UInt8} {d : Nat} {k : Nat} (h0 : 0 < l.length) (hl : l.length ≤ 1000) (hk4 : 4 ≤ k) (hk : k ≤ 63) {most : Int} (hm : most < ((l.length + k : Nat) : Int)) : exp (Lib.uvarint (l.length + k) ++ Lib.uvarint (2 * l.length) ++ l ++ (Lib.uvarint (2 * k + 1) ++ Lib.uvarint d)) most = (4, []) := by
  unfold exp
  rw [List.append_assoc, List.append_assoc, dec_uv _ _ (by omega), if_neg (by simp)]
  simp only
  rw [if_pos (by omega)]
theorem lays_far {l : List UInt8} {k : Nat} (h0 : 0 < l.length) (hl : l.length ≤ 1000) (hk4 : 4 ≤ k) (hk : k ≤ 63) {most : Int} (hm : ((l.length + k : Nat) : Int) ≤ most) : exp (Lib.uvarint (l.length + k) ++ Lib.uvarint (2 * l.length) ++ l ++ Lib.uvarint (2 * k + 1) ++ Lib.uvarint (l.length + 1)) most = (6, []) := by
  have hne : l ≠ [] := List.length_pos_iff.1 h0
  have hp : plainP l = Lib.uvarint (2 * l.length) ++ l := by unfold plainP; rw [if_neg hne]
  have h1 := lay_plain (size := l.length + k) (l := []) (rest := Lib.uvarint (2 * k + 1) ++ Lib.uvarint (l.length + 1)) (x := l) (by simp) (by omega)
  have hdp := dec_uv (2 * k + 1) (Lib.uvarint (l.length + 1)) (by omega)
  have hdd := dec_uv (l.length + 1) [] (by omega)
  rw [List.append_nil] at hdd
  have hpos := Lib.uvarint_pos (2 * k + 1)
  have hne2 : Lib.uvarint (2 * k + 1) ++ Lib.uvarint (l.length + 1) ≠ [] := by
    intro e
    have := congrArg List.length e
    rw [List.length_append, List.length_nil] at this
    omega
  unfold exp
  rw [List.append_assoc, List.append_assoc, List.append_assoc, dec_uv _ _ (by omega), if_neg (by simp)]
  simp only
  rw [if_neg (by omega), List.drop_left, ← List.append_assoc, ← hp, h1, List.nil_append]
  exact lay_err hne2 (part_far hdp (by omega) (by omega) (by rw [List.drop_left]; exact hdd) (by omega)) (by omega)

theorem sep_own {w : World} {B n : Nat} {e : TypeId} {va vb : Value} {xs : List Value} (h : w.ownsRow B e 1 vb n xs) (ha : ∀ k, va.ownBlock = some k → k < B) : va.ownBlock = none ∨ va.ownBlock ≠ vb.ownBlock := by
  cases hv : va.ownBlock with
  | none => exact .inl rfl
  | some k =>
    right
    intro e
    have h1 := (h.lt k e.symm).1
    have h2 := ha k hv
    omega

set_option maxHeartbeats 800000 in
theorem walk_out (w : World) (l : List UInt8) (A : Option Addr) (c : Nat) (f n : Int) (h : l.length = 0 ∨ 1000 < l.length) :
    Calls Try.prog 7 #[.slice A l.length c, .int .u8 f, .int .u8 n] w fun e w' => e = .returned (.bool true) ∧ Below w.heap.size w w' := by
  have HA := Lib.hid (awake_any w)
  by_cases h0 : l.length = 0
  · have hz : ((l.length : Int) == 0) = true := by simp [h0]
    clear h h0
    go_enter Try.func7, Try.ntmps7
    go_wp2_with fail
    refine HA.out.mono ?_
    rintro e w1 ⟨rfl, hb1⟩
    have HB1 := Lib.hid hb1
    clear hb1 HA
    go_wp2
    go_ret
    exact ⟨rfl, HB1.out⟩
  · have hz : ((l.length : Int) == 0) = false := beq_eq_false_iff_ne.2 (by omega)
    have hd : decide (1000 < (l.length : Int)) = true := by simp; omega
    clear h h0
    go_enter Try.func7, Try.ntmps7
    go_wp2_with fail
    refine HA.out.mono ?_
    rintro e w1 ⟨rfl, hb1⟩
    have HB1 := Lib.hid hb1
    clear hb1 HA
    go_wp2
    go_ret
    exact ⟨rfl, HB1.out⟩

set_option maxHeartbeats 6400000 in
set_option maxRecDepth 100000 in
theorem walk_in (w : World) (l : List UInt8) (A : Option Addr) (c : Nat) (hr : Rd w w.heap.size A (l.map B8)) (f n : Nat) (hf : f ≤ 255) (hn : n ≤ 255) (h0 : 0 < l.length) (hl : l.length ≤ 1000) :
    Calls Try.prog 7 #[.slice A l.length c, .int .u8 (f : Int), .int .u8 (n : Int)] w fun e w' => e = .returned (.bool true) ∧ Below w.heap.size w w' := by
  obtain ⟨i0, hi, hz0, hz1, hz2⟩ := info_parts info_u8
  have HA := Lib.hid (awake_any w)
  have HR := Lib.hid hr
  have hz : ((l.length : Int) == 0) = false := beq_eq_false_iff_ne.2 (by omega)
  have hd1000 : decide (1000 < (l.length : Int)) = false := by simp; omega
  have hmod := Nat.mod_lt f h0
  obtain ⟨r, hr1⟩ : ∃ r, f % l.length = r := ⟨_, rfl⟩
  rw [hr1] at hmod
  have hrr : ((f : Int) % (l.length : Int)) = (r : Int) := by rw [← hr1]; exact (Int.natCast_emod f l.length).symm
  obtain ⟨d, hd⟩ : ∃ d, r + 1 = d := ⟨_, rfl⟩
  have hdr : ((r : Int) + 1) = (d : Int) := by omega
  have hd1 : 1 ≤ d := by omega
  have hd2 : d ≤ l.length := by omega
  obtain ⟨m, hm⟩ : ∃ m, n % 60 = m := ⟨_, rfl⟩
  have hmr : ((n : Int) % 60) = (m : Int) := by omega
  obtain ⟨k, hk⟩ : ∃ k, m + 4 = k := ⟨_, rfl⟩
  have hkr : ((m : Int) + 4) = (k : Int) := by omega
  have hk4 : 4 ≤ k := by omega
  have hk63 : k ≤ 63 := by omega
  have hm59 : m ≤ 59 := by omega
  have hr999 : r ≤ 999 := by omega
  obtain ⟨s, hs⟩ : ∃ s, l.length - d = s := ⟨_, rfl⟩
  have hsr : ((l.length : Int) - (d : Int)) = (s : Int) := by omega
  have HSX := Lib.hid (show s + d = l.length by omega)
  have hs999 : s ≤ 999 := by omega
  clear hr hr1 hmod hd hm hk hs
  go_enter Try.func7, Try.ntmps7
  go_wp2_with fail
  refine HA.out.mono ?_
  rintro e w1 ⟨rfl, hb1⟩
  have hown0 := World.ownsRow_lit (base := w.heap.size) (e := 5) (size := 1) w1 #[] 0 hb1.size (by unfold maxLen; omega) rfl
  have HB1 := Lib.hid (hb1.alloc hb1.size (.cells #[] 5))
  clear hb1 HA
  go_wp2_with (at_builtin; refine wpList_append_rd (v := .slice (some ⟨w1.heap.size, 0, none⟩) 0 0) _ rfl (.tmp 39) (.tmp 40) 22 rfl w.heap.size 5 i0 (.int .u8 0) 1 Try.underlying22 hi hz0 hz1 hz2 rfl 0 [] rfl hown0 w.heap.size A l.length c (l.map B8) rfl (by simp) (HR.out.below HB1.out) (one8 l) ?c1 ?c2 HB1.out.size ?_)
  case c1 => unfold maxLen; omega
  case c2 => omega
  intro v2 w2 hown2 hg2 _
  have HB2 := Lib.hid (below_app hown0 HB1.out hg2)
  have hown2' : w2.ownsRow w.heap.size 5 1 v2 l.length (l.map B8) := by simpa using hown2
  have HO2 := Lib.hid hown2'
  clear hown0 hown2 hown2' hg2 HB1
  go_wp2
  go_loopw [9, 10] (fun v i wr => Echo.Rel d k l w v i wr) (fun _ i _ => k - (intOf i).toNat)
  case atStart => exact ⟨0, l, by omega, rfl, by omega, Lib.hid rfl, HO2.out, HB2.out⟩
  case round =>
    obtain ⟨j, l', hj, rfl, hlen, he, hown, hb⟩ := hrel
    clear HO2 HB2
    by_cases hjn : j < k
    · have hSX := HSX.out
      have hsj : l'.length - d = s + j := by omega
      obtain ⟨g, cg, rfl, hg1, hg2, _⟩ := own_addr hown (by omega)
      have hx : s + j < l'.length := by omega
      have hcell : wr.cell? ⟨g, s + j, none⟩ = some (.int .u8 (((l'.getD (s + j) 0).toNat : Nat) : Int)) := by
        rw [hown.cellAt (s + j) (by simp; omega)]
        simp [B8, List.getD, hx]
      have hsn : Hid (echoN d k l = echoN d (k - (j + 1)) (l' ++ [l'.getD (s + j) 0])) := by
        refine Lib.hid ?_
        rw [he.out]
        obtain ⟨m', hm'⟩ : ∃ m', k - j = m' + 1 := ⟨k - j - 1, by omega⟩
        rw [hm', show k - (j + 1) = m' by omega, echoN, hsj]
      have hxl := (l'.getD (s + j) 0).toNat_lt
      generalize hX : l'.getD (s + j) 0 = X at *
      have HOw := Lib.hid hown
      have HLe := Lib.hid hlen
      have hl1 : l'.length ≤ 2000 := by omega
      clear hX hown hlen he hsj hSX
      go_wp2_with (at_builtin; refine wpList_append_own _ rfl (.tmp 47) (.tmp 57) 22 rfl w.heap.size 5 i0 (.int .u8 0) 1 1 Try.underlying22 hi hz0 hz1 hz2 rfl (by decide) _ _ _ rfl (HOw.out.alloc _) ⟨wr.heap.size, 0, none⟩ 1 1 [.int .u8 ((X.toNat : Nat) : Int)] rfl rfl ?d1 ?d2 ?d3 ?d4 ?d5 ?_)
      case d1 => exact new1 _ _ _
      case d2 => intro u hu; simp at hu; subst hu; rfl
      case d3 => unfold maxLen; omega
      case d4 => omega
      case d5 => have := hb.size; simp; omega
      intro v' w2 hown2 hg2 _
      have hb2 := below_appw HOw.out hb hg2
      have hown3 := own_one hown2
      clear hown2 hg2 HOw hb
      go_wp2
      go_roundw
      case rel => exact ⟨j + 1, _, by omega, by go_num, by simp [HLe.out]; omega, hsn, hown3, hb2⟩
      case measure => simp [intOf]; omega
    · obtain rfl : j = k := by omega
      have HE : Hid (echoN d j l = l') := by
        refine Lib.hid ?_
        rw [he.out, Nat.sub_self, echoN]
      have E1 := lays_exp h0 hl hd1 hd2 hk4 hk63 (most := (l'.length : Int)) (by omega)
      have E2 := lays_less (d := d) h0 hl hk4 hk63 (most := (l'.length : Int) - 1) (by omega)
      have E3 := lays_far h0 hl hk4 hk63 (most := (l'.length : Int)) (by omega)
      rw [← hlen] at E1 E2 E3
      rw [HE.out] at E1
      have hWl : l'.length ≤ 1063 := by omega
      have hWl0 : 1 ≤ l'.length := by omega
      have hu1 := uv3 l'.length (by omega)
      have hu2 := uv3 (2 * l.length) (by omega)
      have hu3 := uv3 (2 * j + 1) (by omega)
      have hu4 := uv3 d (by omega)
      have hu5 := uv3 (l.length + 1) (by omega)
      have P1 := Lib.hid (put_two l'.length (2 * l.length) wr (by omega) (by omega))
      have P2 := fun w' => Lib.hid (put_two (2 * j + 1) d w' (by omega) (by omega))
      have P3 := fun w' => Lib.hid (put_one d w' (by omega))
      have P4 := fun w' => Lib.hid (put_one (l.length + 1) w' (by omega))
      rw [show ((2 * l.length : Nat) : Int) = 2 * (l.length : Int) by omega] at P1
      simp only [show ((2 * j + 1 : Nat) : Int) = 2 * (j : Int) + 1 by omega] at P2
      simp only [show ((l.length + 1 : Nat) : Int) = (l.length : Int) + 1 by omega] at P4
      generalize Lib.uvarint l'.length = U1 at *
      generalize Lib.uvarint (2 * l.length) = U2 at *
      generalize Lib.uvarint (2 * j + 1) = U3 at *
      generalize Lib.uvarint d = U4 at *
      generalize Lib.uvarint (l.length + 1) = U5 at *
      have HO := Lib.hid hown
      have HB := Lib.hid hb
      have LW := Lib.hid (fun q hq => (hown.lt q hq).2)
      obtain ⟨Aw, cw, rfl, _, _, _⟩ := own_slice hown
      have HE1 := Lib.hid E1
      have HE2 := Lib.hid E2
      have HE3 := Lib.hid E3
      clear hown hb hlen he HE E1 E2 E3 HSX
      go_wp2_with fail
      refine P1.out.mono ?_
      rintro e w3 ⟨v3, rfl, hown3, hb3⟩
      have HB3 := Lib.hid (below_step HB.out hb3)
      have HW3 := Lib.hid (own_keep HO.out hb3)
      have HO3 := Lib.hid hown3
      have S3 := Lib.hid hb3.size
      have hl3 : (U1 ++ U2).length ≤ 6 := by rw [List.length_append]; omega
      clear hown3 hb3 P1 HO
      obtain ⟨V1, hV1⟩ : ∃ V, U1 ++ U2 = V := ⟨_, rfl⟩
      rw [hV1] at HO3 hl3 HE1 HE2 HE3
      clear hV1 hu1 hu2
      go_wp2_with (at_builtin; refine wpList_append_rd _ rfl (.tmp 68) (.tmp 69) 22 rfl wr.heap.size 5 i0 (.int .u8 0) 1 Try.underlying22 hi hz0 hz1 hz2 rfl _ _ _ rfl HO3.out w.heap.size A l.length c (l.map B8) rfl (by simp) (HR.out.below HB3.out) (one8 l) ?f1 ?f2 S3.out ?_)
      case f1 => unfold maxLen; omega
      case f2 => omega
      intro v4 w4 hown4 hg4 _
      have HB4 := Lib.hid (HB3.out.grown hg4 HB3.out.size (fun q hq => by have h1 := (HO3.out.lt q hq).1; have h2 := HB.out.size; omega))
      have HW4 := Lib.hid (HW3.out.kept hg4 (sep_own HO3.out LW.out))
      have HO4 := Lib.hid (own_join (by simpa using hown4))
      have S4 : Hid (wr.heap.size ≤ w4.heap.size) := Lib.hid (Nat.le_trans S3.out hg4.size)
      have hl4 : (V1 ++ l).length ≤ 1006 := by rw [List.length_append]; omega
      clear hown4 hg4 HO3 HB3 HW3 S3
      obtain ⟨V2, hV2⟩ : ∃ V, V1 ++ l = V := ⟨_, rfl⟩
      rw [hV2] at HO4 hl4 HE1 HE2 HE3
      clear hV2 hl3
      go_wp2_with fail
      refine (P2 w4).out.mono ?_
      rintro e w5 ⟨v5, rfl, hown5, hb5⟩
      have HB5 := Lib.hid (below_step HB4.out hb5)
      have HW5 := Lib.hid (own_keep HW4.out hb5)
      have HO45 := Lib.hid (own_keep HO4.out hb5)
      have S5 : Hid (wr.heap.size ≤ w5.heap.size) := Lib.hid (Nat.le_trans S4.out hb5.size)
      have hl5 : (U3 ++ U4).length ≤ 6 := by rw [List.length_append]; omega
      obtain ⟨UU, hUU⟩ : ∃ V, U3 ++ U4 = V := ⟨_, rfl⟩
      rw [hUU] at hown5 hl5
      have HUU := Lib.hid hUU
      obtain ⟨A5, c5, rfl, _, _, _⟩ := own_slice hown5
      have HRU := Lib.hid (Rd.of_own hown5)
      clear hUU
      clear hown5 hb5 P2 HO4 HB4 HW4 S4
      go_wp2_with (at_builtin; refine wpList_append_rd _ rfl (.tmp 71) (.tmp 79) 22 rfl wr.heap.size 5 i0 (.int .u8 0) 1 Try.underlying22 hi hz0 hz1 hz2 rfl _ _ _ rfl HO45.out w5.heap.size A5 UU.length c5 (UU.map B8) rfl (by simp) HRU.out (one8 UU) ?g1 ?g2 S5.out ?_)
      case g1 => unfold maxLen; omega
      case g2 => omega
      intro v6 w6 hown6 hg6 _
      have HB6 := Lib.hid (HB5.out.grown hg6 HB5.out.size (fun q hq => by have h1 := (HO45.out.lt q hq).1; have h2 := HB.out.size; omega))
      have HW6 := Lib.hid (HW5.out.kept hg6 (sep_own HO45.out LW.out))
      have HO6 := Lib.hid (own_join hown6)
      rw [← HUU.out] at HO6
      have hl5 : (U3 ++ U4).length ≤ 6 := by rw [HUU.out]; exact hl5
      have S6 : Hid (wr.heap.size ≤ w6.heap.size) := Lib.hid (Nat.le_trans S5.out hg6.size)
      have LC := Lib.hid (fun q hq => (hown6.lt q hq).2)
      clear hown6 hg6 HO45 HB5 HW5 HRU S5
      have hV3 : (V2 ++ (U3 ++ U4)).length = (V2 ++ U3).length + U4.length := by simp [List.length_append]; omega
      have hV3t : (V2 ++ (U3 ++ U4)).take (V2 ++ U3).length = V2 ++ U3 := by rw [← List.append_assoc, List.take_left' rfl]
      have hl0 : (V2 ++ U3).length ≤ 1009 := by rw [List.length_append]; omega
      rw [List.append_assoc V2 U3 U5] at HE3
      rw [← List.append_assoc] at HE3
      obtain ⟨C, hC⟩ : ∃ C, V2 ++ (U3 ++ U4) = C := ⟨_, rfl⟩
      obtain ⟨C0, hC0⟩ : ∃ C, V2 ++ U3 = C := ⟨_, rfl⟩
      rw [hC] at HO6 HE1 HE2 hV3 hV3t
      rw [hC0] at hV3 hV3t hl0 HE3
      have hCl : C.length ≤ 1012 := by omega
      have hcut : ((C.length : Int) - (U4.length : Int)) = (C0.length : Int) := by omega
      have HVL := Lib.hid hV3
      have hC0l : C0.length ≤ C.length := by omega
      clear hC hC0 hV3 hl4 hl5 hu3
      obtain ⟨A6, c6, rfl, h61, h62, _⟩ := own_slice HO6.out
      have h61' : C0.length ≤ c6 := by omega
      have HX := Lib.hid (exp_any C A6 c6 (l'.length : Int) w6 (Rd.of_own HO6.out) h61 h62 (by omega))
      rw [HE1.out] at HX
      go_wp2_with fail
      refine HX.out.mono ?_
      rintro e w7 ⟨v7, rfl, hown7, hb7⟩
      have HB7 := Lib.hid (below_step HB6.out hb7)
      have HW7 := Lib.hid (own_keep HW6.out hb7)
      have HO67 := Lib.hid (own_keep HO6.out hb7)
      have HO7 := Lib.hid hown7
      have S7 := Lib.hid hb7.size
      have HY := Lib.hid (exp_any C A6 c6 ((l'.length : Int) - 1) w7 (Rd.of_own HO67.out) h61 h62 (by omega))
      rw [HE2.out] at HY
      clear hown7 hb7 HO6 HW6 HB6 HX
      go_wp2_with fail
      refine HY.out.mono ?_
      rintro e w8 ⟨v8, rfl, hown8, hb8⟩
      have HB8 := Lib.hid (below_step HB7.out hb8)
      have HW8 := Lib.hid (own_keep HW7.out hb8)
      have HO68 := Lib.hid (own_keep HO67.out hb8)
      have HO78 := Lib.hid (own_keep HO7.out hb8)
      have S8 : Hid (w6.heap.size ≤ w8.heap.size) := Lib.hid (Nat.le_trans S7.out hb8.size)
      have L7 := Lib.hid (fun q hq => (HO78.out.lt q hq).2)
      clear hown8 hb8 HO67 HO7 HB7 HW7 HY S7
      have hown9 := World.ownsRow_lit (base := w8.heap.size) (e := 5) (size := 1) w8 #[] 0 (Nat.le_refl _) (by unfold maxLen; omega) rfl
      have HO9 := Lib.hid hown9
      have HB9 := Lib.hid (HB8.out.alloc HB8.out.size (.cells #[] 5))
      have HBX := Lib.hid ((Below.refl w8.heap.size w8).alloc (Nat.le_refl _) (.cells #[] 5))
      have hP3 := (P3 (w8.alloc (.cells #[] 5))).out
      have hs8 : (w8.alloc (.cells #[] 5)).heap.size = w8.heap.size + 1 := by simp
      rw [hs8] at hP3
      have HP3 := Lib.hid hP3
      clear hown9 hs8 hP3 P3
      go_wp2_with fail
      refine HP3.out.mono ?_
      rintro e wa ⟨va, rfl, howna, hba⟩
      have HBa := Lib.hid (below_step HB9.out hba)
      have HBXa := Lib.hid (HBX.out.trans (hba.mono (by simp)))
      have HO9a := Lib.hid (own_keep HO9.out hba)
      obtain ⟨Aa, ca, rfl, _, _, _⟩ := own_slice howna
      have S9a : Hid (w8.heap.size ≤ wa.heap.size) := Lib.hid HBXa.out.size
      have HC0 : Hid (Rd wa w8.heap.size (A6) (C0.map B8)) := by
        have h := ((Rd.of_own HO68.out).below HBXa.out).take C0.length
        rw [← List.map_take, hV3t] at h
        exact Lib.hid h
      clear howna hba HB9 HO9 HBX HP3
      go_wp2_with (at_builtin; refine wpList_append_rd (v := .slice (some ⟨w8.heap.size, 0, none⟩) 0 0) _ rfl (.tmp 96) (.tmp 106) 22 rfl w8.heap.size 5 i0 (.int .u8 0) 1 Try.underlying22 hi hz0 hz1 hz2 rfl 0 [] rfl HO9a.out w8.heap.size _ _ _ (C0.map B8) rfl (by simp) HC0.out (one8 C0) ?h1 ?h2 S9a.out ?_)
      case h1 => unfold maxLen; omega
      case h2 => omega
      intro vb wb hownb hgb _
      have HBb := Lib.hid (HBa.out.grown hgb HBa.out.size (fun q hq => by have h1 := (HO9a.out.lt q hq).1; have h2 := HB8.out.size; omega))
      have HBXb := Lib.hid (HBXa.out.grown hgb HBXa.out.size (fun q hq => (HO9a.out.lt q hq).1))
      have HOb : Hid (wb.ownsRow w8.heap.size 5 1 vb C0.length (C0.map B8)) := Lib.hid (by simpa using hownb)
      have Sb : Hid (w8.heap.size ≤ wb.heap.size) := Lib.hid HBXb.out.size
      clear hownb hgb HBa HO9a HC0 HBXa S9a
      go_wp2_with fail
      refine (P4 wb).out.mono ?_
      rintro e wc ⟨vc, rfl, hownc, hbc⟩
      have HBc := Lib.hid (below_step HBb.out hbc)
      have HBXc := Lib.hid (below_step HBXb.out hbc)
      have HObc := Lib.hid (own_keep HOb.out hbc)
      have Sc : Hid (w8.heap.size ≤ wc.heap.size) := Lib.hid HBXc.out.size
      obtain ⟨Ac, cc, rfl, _, _, _⟩ := own_slice hownc
      have HRc := Lib.hid (Rd.of_own hownc)
      clear hownc hbc HBb HBXb HOb Sb P4
      go_wp2_with (at_builtin; refine wpList_append_rd _ rfl (.tmp 107) (.tmp 113) 22 rfl w8.heap.size 5 i0 (.int .u8 0) 1 Try.underlying22 hi hz0 hz1 hz2 rfl _ _ _ rfl HObc.out wc.heap.size _ _ _ (U5.map B8) rfl (by simp) HRc.out (one8 U5) ?i1 ?i2 Sc.out ?_)
      case i1 => unfold maxLen; omega
      case i2 => omega
      intro vd wd hownd hgd _
      have HBd := Lib.hid (HBc.out.grown hgd HBc.out.size (fun q hq => by have h1 := (HObc.out.lt q hq).1; have h2 := HB8.out.size; omega))
      have HBXd := Lib.hid (HBXc.out.grown hgd HBXc.out.size (fun q hq => (HObc.out.lt q hq).1))
      have hDl : (C0 ++ U5).length ≤ 1012 := by rw [List.length_append]; omega
      have HOd := Lib.hid (own_join hownd)
      obtain ⟨D, hD⟩ : ∃ D, C0 ++ U5 = D := ⟨_, rfl⟩
      rw [hD] at HOd hDl HE3
      clear hD
      obtain ⟨Ad, cd, rfl, hd1', hd2', _⟩ := own_slice HOd.out
      have HZ := Lib.hid (exp_any D Ad cd (l'.length : Int) wd ((Rd.of_own HOd.out)) hd1' hd2' (by omega))
      rw [HE3.out] at HZ
      have HWd := Lib.hid (own_keep HW8.out HBXd.out)
      have HXd := Lib.hid (own_keep HO78.out HBXd.out)
      clear hownd hgd HBc HBXc HObc HRc Sc HBXd HOd HW8 HO78
      go_wp2_with fail
      refine HZ.out.mono ?_
      rintro e we ⟨ve, rfl, howne, hbe⟩
      have HBe := Lib.hid (below_step HBd.out hbe)
      have HWe := Lib.hid (own_keep HWd.out hbe)
      have HXe := Lib.hid (own_keep HXd.out hbe)
      obtain ⟨A7, c7, rfl, _, _, _⟩ := own_slice HXe.out
      have s1 := run_str we Aw l'.length cw rfl (Rd.of_own HWe.out)
      have s2 := run_str we A7 l'.length c7 rfl (Rd.of_own HXe.out)
      have e9 : (l' == l') = true := by simp
      clear howne hbe HBd HWd HXd HZ HWe HXe
      go_wp2
      go_ret
      exact ⟨rfl, HBe.out⟩
theorem walk (w : World) (l : List UInt8) (A : Option Addr) (c : Nat) (_hc : l.length ≤ c) (_hm : c ≤ maxLen) (hr : Rd w w.heap.size A (l.map B8)) (_hlen : l.length ≤ 1048576) (f : Int) (wf : (Lit.int .u8 f).wf = true) (n : Int) (wn : (Lit.int .u8 n).wf = true) :
    Calls Try.prog 7 #[.slice A l.length c, .int .u8 f, .int .u8 n] w fun e w' => e = .returned (.bool true) ∧ Below w.heap.size w w' := by
  by_cases h : l.length = 0 ∨ 1000 < l.length
  · exact walk_out w l A c f n h
  · obtain ⟨f0, f1⟩ := bounds_u8 wf
    obtain ⟨n0, n1⟩ := bounds_u8 wn
    obtain ⟨F, rfl⟩ := Int.eq_ofNat_of_zero_le f0
    obtain ⟨N, rfl⟩ := Int.eq_ofNat_of_zero_le n0
    exact walk_in w l A c hr F N (by omega) (by omega) (by omega) (by omega)
theorem own : ownKnob Try.prog.godebug = none := by kernel_rfl
theorem laid : laidOutB Try.prog = true := by kernel_rfl
theorem allRead : (Try.f7.params.toList.all fun t => Try.prog.readableRec t && decide (t < Try.prog.types.size)) = true := by kernel_rfl
theorem contract (H : Type) (enc : TypeId × Value → H) (W : World) (base : Nat) (args : Array Value) (ds gs : List (DataW H)) (before : List MemPlace)
    (hval : ∀ (j : Nat) t v, Try.f7.params[j]? = some t → args[j]? = some v → Value.okWide Try.prog W .any base t v)
    (hW : DataW.Whole enc Try.prog Try.f7.params.toList Rows.lzLaysSpec.vars false W args.toList ds gs before) (hk : Rows.uptoSmall H (ds ++ gs) = true) :
    Calls Try.prog 7 args W fun e W' => ∃ v, e = .returned v ∧ Rows.lzLaysSpec.post enc Try.prog Try.f7 false true false false W args v W' := by
  have hW' := hW
  obtain ⟨p, q, hA0, hV, rfl, hfz, hnd⟩ := hW
  obtain ⟨rfl, rfl⟩ := trodVars_none hV
  have hlt : ∀ x ∈ p, x.block < W.heap.size := fun x hx => hW'.lt x (by simp [hx])
  have hA : DataW.TrodAll enc Try.prog W 0 (fun _ => true) true Try.f7.params.toList args.toList ds p := hA0
  rw [Try.params7] at hA hval
  obtain ⟨v0, vs0, d0, ds0, p0, q0, hargs, rfl, rfl, h0, r0⟩ := trodAll_cons hA
  obtain ⟨v1, vs1, d1, ds1, p1, q1, rfl, rfl, rfl, h1, r1⟩ := trodAll_cons r0
  obtain ⟨v2, vs2, d2, ds2, p2, q2, rfl, rfl, rfl, h2, r2⟩ := trodAll_cons r1
  obtain ⟨rfl, rfl, rfl⟩ := trodAll_nil r2
  obtain rfl : args = #[v0, v1, v2] := by cases args; simp_all
  have hkb : Rows.uptoBulkAll ([d0, d1, d2] ++ []) ≤ 1048576 := of_decide_eq_true hk
  obtain ⟨A0, l0, c0, rfl, hl0, hm0, hr0, hd0⟩ := open_u8s Try.underlying22 Try.underlying5 (by kernel_rfl) (hval 0 22 v0 rfl rfl) h0 (fun x hx => hlt x (by simp [hx]))
  have hb0 : l0.length ≤ 1048576 := by have h := bulk_len hd0; rw [List.length_map] at h; simp only [List.append_nil, Rows.uptoBulkAll] at hkb; omega
  obtain ⟨a1, rfl, rfl, rfl, w1⟩ := open_int Try.underlying5 (hval 1 5 v1 rfl rfl) h1
  obtain ⟨a2, rfl, rfl, rfl, w2⟩ := open_int Try.underlying5 (hval 2 5 v2 rfl rfl) h2
  refine (walk W l0 A0 c0 hl0 hm0 hr0 hb0 a1 w1 a2 w2).mono fun e W' ⟨he, hb⟩ => ?_
  subst he
  exact ⟨_, rfl, law_post laid (fun t ht => by have h := List.all_eq_true.1 allRead t ht; rw [Bool.and_eq_true, decide_eq_true_eq] at h; exact h) rfl (by kernel_rfl) Try.underlying4 rfl hW' hb⟩
set_option maxRecDepth 100000 in
theorem lifted (os : Os) (started : os.Started) (H : Type) (enc : TypeId × Value → H) (F : Stop.Interp) :
    ReturnsInHanded {} Try.checked os 7 .any ((Rows.OpenSpec.upto Rows.lzLaysSpec).pre6 enc Try.prog Try.f7 Rows.lzLaysUptoRow.domain false) (((Rows.OpenSpec.upto Rows.lzLaysSpec).at F).post enc Try.prog Try.f7 false true false false) := by
  refine returnsInHanded_of_cond (C := Try.checked) (s := Rows.OpenSpec.upto Rows.lzLaysSpec) (k := Rows.uptoSmall) rfl own started (by kernel_rfl) Try.func7
    (OpenSpec.witness (enc := enc) (C := Try.checked) (s := Rows.OpenSpec.upto Rows.lzLaysSpec) (k := Rows.uptoSmall) rfl false ⟨#[], #[.slice none 0 0, .int .u8 0, .int .u8 0], []⟩ 8 (by kernel_rfl) (by kernel_rfl) (by kernel_rfl)
      (x := ([.nil, .lit (.int .u8 0), .lit (.int .u8 0)], [], [])) (by kernel_rfl) rfl (by kernel_rfl)) ?_
  intro W base args ds gs before hval hW _ hk _
  exact contract H enc W base args ds gs before hval hW hk
theorem over : Rows.lzLaysUptoRow.holds Try.pinned (Rows.OpenSpec.upto Rows.lzLaysSpec) :=
  OpenClaim.holds_of_cond 7 Try.f7 rfl rfl rfl rfl rfl rfl rfl ⟨rfl, rfl, rfl, rfl, rfl⟩ rfl rfl rfl rfl rfl (by kernel_rfl) Try.func7 (by kernel_rfl)
    (of_decide_eq_true (by kernel_rfl)) (by unfold Func.isWrapper; first | (rw [if_pos (by decide +kernel)]; kernel_rfl) | (rw [if_neg (by decide +kernel)]; exact ⟨rfl, rfl⟩))
    (fun os started H enc _ F => lifted os started H enc F)
theorem proved : Rows.LzLaysUptoSaid := over

end Go.Proofs.Ytifndcjjlhjgiaa.lzLays
