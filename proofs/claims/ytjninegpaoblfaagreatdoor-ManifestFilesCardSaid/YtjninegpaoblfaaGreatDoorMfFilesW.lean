/- ManifestFiles, walked over the contracts of the program's manifests and both disks. Conditions: the program's table is laid. -/
import Derived.Test.YtjninegpaoblfaaGreatDoorMfBytesW
import Derived.Test.YtjninegpaoblfaaGreatDoorDkArmss
import Derived.Test.YtjninegpaoblfaaGreatDoorRefMl
import Derived.Test.YtjninegpaoblfaaGreatDoorRefOps
import Derived.Test.YtjninegpaoblfaaGreatDoorRefRes5
import Derived.Test.YtjninegpaoblfaaGreatDoorRefRl
import Derived.Test.YtjninegpaoblfaaGreatDoorPdReads
import Derived.Deep.CutBlock
import Derived.BigQuiet
import Derived.Test.YtjninegpaoblfaaGreatDoorRegD
namespace Go.Proofs.YtjninegpaoblfaaGreatDoor.MfFilesW
open Go Go.RowKit Words AppN DkSpec PdLook RefDisk PdDisk PdOps PdSt PdRes MfSpec MfMem RefMf RefMw RefMr RefMl MfRead MfDisk MfLaw MfAwake MfBytesW MfOpen MfFilesP Mv RegD Tab Framed Reading

set_option maxHeartbeats 6400000 in
set_option maxRecDepth 100000 in
theorem files_walk (P : Mfs) (w : World) (hL : Laid w w.heap.size) (ms : List MM) (A : Option Addr) (c : Nat) (hc : ms.length ≤ c) (hm : c ≤ maxLen) (hr : Rd w w.heap.size A (flatM ms)) (hok : ∀ m ∈ ms, OkM w m)
    (av : List Int) (Aa : Option Addr) (ca : Nat) (hca : av.length ≤ ca) (hma : ca ≤ maxLen) (hra : Rd w w.heap.size Aa (av.map I64)) (has : ∀ x ∈ av, In64 x)
    (fs : List Bool) (Af : Option Addr) (cf : Nat) (hcf : fs.length ≤ cf) (hmf : cf ≤ maxLen) (hrf : Rd w w.heap.size Af (fs.map Value.bool)) :
    Calls Tryz.prog 3 #[.slice A ms.length c, .slice Aa av.length ca, .slice Af fs.length cf] w fun e w' => e = .returned (.bool true) ∧ Below w.heap.size w w' := by
  have HL := Lib.hid hL
  have HR := Lib.hid hr
  have HRA := Lib.hid hra
  have HRF := Lib.hid hrf
  have HOK := Lib.hid hok
  have HAS := Lib.hid has
  have H0 := Lib.hid (awake_any P w hL)
  obtain ⟨n, hn⟩ : ∃ n, ms.length = n := ⟨_, rfl⟩
  obtain ⟨na, hna⟩ : ∃ na, av.length = na := ⟨_, rfl⟩
  obtain ⟨nf, hnf⟩ : ∃ nf, fs.length = nf := ⟨_, rfl⟩
  have HN := Lib.hid hn
  have HNA := Lib.hid hna
  have HNF := Lib.hid hnf
  rw [hn] at hc
  rw [hna] at hca
  rw [hnf] at hcf
  rw [hn, hna, hnf]
  have hN : n ≤ 9223372036854775807 := by unfold maxLen at hm; omega
  have hNA : na ≤ 9223372036854775807 := by unfold maxLen at hma; omega
  have hNF : nf ≤ 9223372036854775807 := by unfold maxLen at hmf; omega
  clear hL hr hra hrf hok has hn hna hnf hc hm hca hma hcf hmf
  go_enter Tryz.func3, Tryz.ntmps3
  go_wp2_with fail
  refine H0.out.mono ?_
  rintro e w1 ⟨rfl, hb1⟩
  have HB1 := Lib.hid hb1
  have H1 := Lib.hid (PdOps.new_any w1 (fun _ => 0) 1)
  clear hb1 H0
  go_wp2_with fail
  refine H1.out.mono ?_
  rintro e w2 ⟨p, K1, rfl, hp, hd1, ht1⟩
  have HD1 := Lib.hid hd1
  have HT1 := Lib.hid ht1
  clear hp hd1 ht1 H1
  have H2 := Lib.hid (RefNew5.new_any w2 K1 2)
  go_wp2_with fail
  refine H2.out.mono ?_
  rintro e w3 ⟨q, K2, rfl, hq, hd2, ht2⟩
  have S3 := Lib.hid (Fs.first HB1.out HD1.out HT1.out hd2 ht2)
  clear hq hd2 ht2 H2 HD1 HT1 HB1
  go_wp2
  go_loopw [9] (fun i wr => FRel w p q n i wr) (fun v _ => n - (intOf v).toNat)
  case atStart => exact ⟨0, Nat.zero_le _, rfl, Lib.hid ⟨K2, fresh, S3.out, small_fresh⟩⟩
  case round =>
    obtain ⟨k, hk, rfl, HX⟩ := hrel
    obtain ⟨K4, d4, S4, hs4⟩ := HX.out
    replace S4 := Lib.hid S4
    have HS4 := Lib.hid hs4
    clear HX hs4 S3
    by_cases hkn : k < n
    case neg =>
      obtain rfl : k = n := by omega
      have HLR := Lib.hid (laid_up HL.out S4.out.below)
      have H5 := Lib.hid ((P.loadNil wr HLR.out).mono fun e w' h => rpost_own h)
      simp only at H5
      go_wp2_with fail
      refine H5.out.mono ?_
      rintro e w5 ⟨m0, m1, m2, m3, ml, mA, mn, mc, rfl, _, _, hb5⟩
      have HB5 := Lib.hid (S4.out.below.trans (hb5.mono S4.out.below.size))
      have HB6 : Hid (Below w.heap.size w (w5.alloc (boxM (⟨m0, m1, m2, m3, ml⟩, mA, mn, mc)))) := Lib.hid (HB5.out.trans (((Below.refl _ w5).alloc (Nat.le_refl _) _).mono HB5.out.size))
      have H6 := Lib.hid ((small_any (w5.alloc (boxM (⟨m0, m1, m2, m3, ml⟩, mA, mn, mc)))).mono fun e w' h => open_mm h)
      clear hb5 H5
      unfold boxM at HB6 H6
      simp only at HB6 H6
      go_wp2_with fail
      refine H6.out.mono ?_
      rintro e w7 ⟨s0, s1, s2, s3, sl, sA, sn, sc, rfl, _, hok7, hb7⟩
      have HB7 := Lib.hid (HB6.out.trans (hb7.mono HB6.out.size))
      have H7 := Lib.hid (P.saveNil w7 (⟨s0, s1, s2, s3, sl⟩, sA, sn, sc) hok7 (laid_up HL.out HB7.out))
      unfold aggM slV at H7
      simp only at H7
      clear hok7 hb7 H6
      go_wp2_with fail
      refine H7.out.mono ?_
      rintro e w8 ⟨rfl, hb8⟩
      have HB8 := Lib.hid (HB7.out.trans (hb8.mono HB7.out.size))
      clear hb8 H7
      go_wp2
      go_ret
      exact ⟨rfl, HB8.out⟩
    have i1 : (0 : Int) ≤ (k : Int) := by omega
    have i2 : (k : Int) < (n : Int) := by omega
    go_upto_if 36 with (fail)
    go_cut [42] from 36 to 49 (fun _ wx => Hid (∃ K d, Fs w K p q d d wx ∧ Small d))
    case first =>
      by_cases hka : k < na
      · have i3 : (k : Int) < (na : Int) := by omega
        obtain ⟨a, ha⟩ : ∃ a, av[k]? = some a := ⟨_, List.getElem?_eq_getElem (by have := HNA.out; omega)⟩
        have hia : In64 a := HAS.out a (List.mem_of_getElem? ha)
        obtain ⟨g, o, rfl, hg, hcell⟩ := HRA.out (by rw [List.length_map]; have := HNA.out; omega)
        have hcw := hcell k (I64 a) (by rw [List.getElem?_map, ha]; rfl)
        unfold I64 at hcw
        have HC := Lib.hid hcw
        have c0 : wr.cell? ⟨g, o + k, none⟩ = some (.int .i64 a) := (S4.out.below.cell (p := ⟨g, o + k, none⟩) hg).trans HC.out
        have H5 := Lib.hid (PdOps.arm_any wr K4 1 p d4 a S4.out.disk hia.1 hia.2)
        unfold PdOps.MPost at H5
        clear hcell hcw ha
        go_wp2_with fail
        refine H5.out.mono ?_
        rintro e w5 ⟨rfl, K5, hd5, ht5⟩
        have S5 := Lib.hid (S4.out.one hd5 ht5)
        have c1 : w5.cell? ⟨g, o + k, none⟩ = some (.int .i64 a) := (S5.out.below.cell (p := ⟨g, o + k, none⟩) hg).trans HC.out
        have H6 := Lib.hid (RefOps5.arm_any w5 K5 2 q d4 a S5.out.ref (by decide))
        unfold RefTake.MPost at H6
        clear hd5 ht5 H5 S4 c0
        go_wp2_with fail
        refine H6.out.mono ?_
        rintro e w6 ⟨rfl, K6, hd6, ht6⟩
        have S6 := Lib.hid (S5.out.two hd6 ht6)
        clear hd6 ht6 H6 c1
        go_wp2
        go_meet
        exact Lib.hid ⟨K6, _, S6.out, small_arm HS4.out hia.2⟩
      · have i3 : ¬ (k : Int) < (na : Int) := by omega
        go_wp2
        go_meet
        exact Lib.hid ⟨K4, d4, S4.out, HS4.out⟩
    case rest =>
      clear S4 HS4
      go_upto_if 52 with (fail)
      go_cut [58] from 52 to 65 (fun _ wx => Hid (∃ K d, Fs w K p q d d wx ∧ Small d))
      case first =>
        obtain ⟨K4, d4, S4, hs4⟩ := hcut.out
        replace S4 := Lib.hid S4
        have HS4 := Lib.hid hs4
        clear hs4 hcut
        by_cases hka : k < nf
        · have i3 : (k : Int) < (nf : Int) := by omega
          obtain ⟨a, ha⟩ : ∃ a, fs[k]? = some a := ⟨_, List.getElem?_eq_getElem (by have := HNF.out; omega)⟩
          obtain ⟨g, o, rfl, hg, hcell⟩ := HRF.out (by rw [List.length_map]; have := HNF.out; omega)
          have hcw := hcell k (.bool a) (by rw [List.getElem?_map, ha]; rfl)
          have HC := Lib.hid hcw
          have c0 : wc.cell? ⟨g, o + k, none⟩ = some (.bool a) := (S4.out.below.cell (p := ⟨g, o + k, none⟩) hg).trans HC.out
          have H5 := Lib.hid (PdOps.fill_any wc K4 1 p d4 a S4.out.disk)
          unfold PdOps.MPost at H5
          clear hcell hcw ha
          go_wp2_with fail
          refine H5.out.mono ?_
          rintro e w5 ⟨rfl, K5, hd5, ht5⟩
          have S5 := Lib.hid (S4.out.one hd5 ht5)
          have c1 : w5.cell? ⟨g, o + k, none⟩ = some (.bool a) := (S5.out.below.cell (p := ⟨g, o + k, none⟩) hg).trans HC.out
          have H6 := Lib.hid (RefOps5.fill_any w5 K5 2 q d4 a S5.out.ref (by decide))
          unfold RefTake.MPost at H6
          clear hd5 ht5 H5 S4 c0
          go_wp2_with fail
          refine H6.out.mono ?_
          rintro e w6 ⟨rfl, K6, hd6, ht6⟩
          have S6 := Lib.hid (S5.out.two hd6 ht6)
          clear hd6 ht6 H6 c1
          go_wp2
          go_meet
          exact Lib.hid ⟨K6, _, S6.out, small_fill HS4.out a⟩
        · have i3 : ¬ (k : Int) < (nf : Int) := by omega
          go_wp2
          go_meet
          exact Lib.hid ⟨K4, d4, S4.out, HS4.out⟩
      case rest =>
        obtain ⟨K4, d4, S4, hs4⟩ := hcut.out
        obtain ⟨m, hmk⟩ : ∃ m, ms[k]? = some m := ⟨_, List.getElem?_eq_getElem (by have := HN.out; omega)⟩
        have HM := Lib.hid (HOK.out m (List.mem_of_getElem? hmk))
        have S5 := Lib.hid (S4.call (below_drew1 (Below.refl _ wc)))
        have HS4 := Lib.hid hs4
        obtain ⟨g, o, rfl, hg, hcell⟩ := cells5 HR.out hmk
        have HC := Lib.hid hcell
        clear hs4 hcut S4 hmk hcell hg
        obtain ⟨K5, hK5⟩ : ∃ K5, PdSt.mark K4 wc.heap.size 0 = K5 := ⟨_, rfl⟩
        rw [hK5] at S5
        clear hK5
        have H6 := Lib.hid (P.save wc.drew K5 1 p d4 m S5.out.disk (by decide) (HM.out.below S5.out.below) HS4.out (laid_up HL.out S5.out.below))
        have H7 := Lib.hid fun (w6 : World) (K6 : Nat → Nat) (h : RefD w6 K6 2 q d4) (hb : Below w.heap.size w w6) => rsave_any w6 K6 2 q d4 m h (by decide) (HM.out.below hb) HS4.out
        have HS6 := Lib.hid (small_save HS4.out HM.out.ok)
        obtain ⟨⟨e6, d6⟩, hsv⟩ : ∃ r, save m.1 d4 = r := ⟨_, rfl⟩
        rw [hsv] at H6 HS6
        simp only [hsv] at H7
        clear hsv HS4
        unfold PdOps.OPost at H6
        unfold RefOps5.OPost at H7
        have c := HC.out wc.drew S5.out.below
        have HM2 := HM
        obtain ⟨⟨m0, m1, m2, m3, ml⟩, mA, mn, mc⟩ := m
        unfold aggM slV at H6 H7
        simp only at H6 H7 HS6 HC c
        obtain ⟨c0, c1, c2, c3, c4⟩ := c
        have j1 : ((e6 : Int) != (e6 : Int)) = false := by simp
        have j2 : (d6.off != d6.off) = false := by simp
        go_upto_region 14 with (fail)
        go_cut [86] from 65 to 87 (fun s86 wx => s86 = .bool false ∧ Hid (∃ K, Fs w K p q d6 d6 wx))
        case first =>
          have T1 := Lib.hid (HC.out wc.drew S5.out.below)
          clear c0 c1 c2 c3 c4
--R14
          refine wp_region_D (fun j => j == 11) (fun w' => w'.cell? ⟨g, o + k * 5, none⟩ = some (.int .i64 m0) ∧ w'.cell? ⟨g, o + k * 5 + 1, none⟩ = some (.int .i64 m1) ∧ w'.cell? ⟨g, o + k * 5 + 2, none⟩ = some (.int .u64 (m2.toNat : Int)) ∧ w'.cell? ⟨g, o + k * 5 + 3, none⟩ = some (.int .i64 m3) ∧ w'.cell? ⟨g, o + k * 5 + 4, none⟩ = some (.slice mA mn mc)) (by kernel_rfl) ?_
          refine wpAnyD_take (i := 0) (v := ?_) rfl (by kernel_rfl) (fun _ _ _ h => h) (Or.inl ⟨by rfl, ?_⟩) T1.out ?_
          rotate_left
          · intro w9 h9
            obtain ⟨c0, c1, c2, c3, c4⟩ := h9
            first | (go_simp; with_reducible rfl) | go_simp
          try simp only [Act.put, List.setIfInBounds_toArray]
          refine wpAnyD_take (i := 1) (v := ?_) rfl (by kernel_rfl) (fun _ _ _ h => h) (Or.inl ⟨by rfl, ?_⟩) T1.out ?_
          rotate_left
          · intro w9 h9
            obtain ⟨c0, c1, c2, c3, c4⟩ := h9
            first | (go_simp; with_reducible rfl) | go_simp
          try simp only [Act.put]
          refine wpAnyD_take (i := 2) (v := ?_) rfl (by kernel_rfl) (fun _ _ _ h => h) (Or.inl ⟨by rfl, ?_⟩) T1.out ?_
          rotate_left
          · intro w9 h9
            obtain ⟨c0, c1, c2, c3, c4⟩ := h9
            first | (go_simp; with_reducible rfl) | go_simp
          try simp only [Act.put]
          refine wpAnyD_take (i := 3) (v := ?_) rfl (by kernel_rfl) (fun _ _ _ h => h) (Or.inl ⟨by rfl, ?_⟩) T1.out ?_
          rotate_left
          · intro w9 h9
            obtain ⟨c0, c1, c2, c3, c4⟩ := h9
            first | (go_simp; with_reducible rfl) | go_simp
          try simp only [Act.put]
          refine wpAnyD_take (i := 4) (v := ?_) rfl (by kernel_rfl) (fun _ _ _ h => h) (Or.inl ⟨by rfl, ?_⟩) T1.out ?_
          rotate_left
          · intro w9 h9
            obtain ⟨c0, c1, c2, c3, c4⟩ := h9
            first | (go_simp; with_reducible rfl) | go_simp
          try simp only [Act.put]
          refine wpAnyD_take (i := 6) (v := ?_) rfl (by kernel_rfl) (fun _ _ _ h => h) (Or.inl ⟨by rfl, ?_⟩) T1.out ?_
          rotate_left
          · intro w9 h9
            obtain ⟨c0, c1, c2, c3, c4⟩ := h9
            first | (go_simp; with_reducible rfl) | go_simp
          try simp only [Act.put]
          refine wpAnyD_take (i := 7) (v := ?_) rfl (by kernel_rfl) (fun _ _ _ h => h) (Or.inl ⟨by rfl, ?_⟩) T1.out ?_
          rotate_left
          · intro w9 h9
            obtain ⟨c0, c1, c2, c3, c4⟩ := h9
            first | (go_simp; with_reducible rfl) | go_simp
          try simp only [Act.put]
          refine wpAnyD_take (i := 8) (v := ?_) rfl (by kernel_rfl) (fun _ _ _ h => h) (Or.inl ⟨by rfl, ?_⟩) T1.out ?_
          rotate_left
          · intro w9 h9
            obtain ⟨c0, c1, c2, c3, c4⟩ := h9
            first | (go_simp; with_reducible rfl) | go_simp
          try simp only [Act.put]
          refine wpAnyD_take (i := 9) (v := ?_) rfl (by kernel_rfl) (fun _ _ _ h => h) (Or.inl ⟨by rfl, ?_⟩) T1.out ?_
          rotate_left
          · intro w9 h9
            obtain ⟨c0, c1, c2, c3, c4⟩ := h9
            first | (go_simp; with_reducible rfl) | go_simp
          try simp only [Act.put]
          refine wpAnyD_take (i := 10) (v := ?_) rfl (by kernel_rfl) (fun _ _ _ h => h) (Or.inl ⟨by rfl, ?_⟩) T1.out ?_
          rotate_left
          · intro w9 h9
            obtain ⟨c0, c1, c2, c3, c4⟩ := h9
            first | (go_simp; with_reducible rfl) | go_simp
          try simp only [Act.put]
          refine wpAnyD_one (j := 5) (by kernel_rfl) rfl rfl rfl (fun K hK => ?_)
          go_simp
          refine H6.out.mono ?_
          rintro e w6 ⟨rfl, K6, hd6, ht6⟩
          have S6 := Lib.hid (S5.out.one hd6 ht6)
          have H8 := Lib.hid (H7.out w6 K6 S6.out.ref S6.out.below)
          clear hd6 ht6 S5 H6 H7 T1
          refine hK.out _ _ (HC.out w6 S6.out.below) ?_
          clear hK K
          try simp only [Act.put, List.setIfInBounds_toArray, List.set_cons_zero, List.set_cons_succ]
          refine wpAnyD_dep (j := 11) (by kernel_rfl) rfl rfl rfl (fun K hK => ?_)
          go_simp
          refine H8.out.mono ?_
          rintro e w7 ⟨rfl, K7, hd7, ht7⟩
          have S7 := Lib.hid (S6.out.two hd7 ht7)
          have H9 := Lib.hid (diskArms.down_st w7 K7 p d6 S7.out.disk)
          clear hd7 ht7 S6 H8
          refine hK.out _ _ ?_
          clear hK K
          try simp only [Act.put, List.setIfInBounds_toArray, List.set_cons_zero, List.set_cons_succ]
          have T3 := Lib.hid S7.out.off
          refine wpAny_of_D (S := fun w' => w'.cell? ⟨q, 2, none⟩ = some (.bool d6.off)) (dep := fun _ => false) _ _ _ _ ?_
          refine wpAnyD_take (i := 12) (v := ?_) rfl (by kernel_rfl) (fun _ _ _ h => h) (Or.inl ⟨by rfl, ?_⟩) T3.out ?_
          rotate_left
          · intro w9 h9
            have c5 := h9
            first | (go_simp; with_reducible rfl) | go_simp
          try simp only [Act.put, List.setIfInBounds_toArray]
          refine wpAnyD_take (i := 13) (v := ?_) rfl (by kernel_rfl) (fun _ _ _ h => h) (Or.inl ⟨by rfl, ?_⟩) T3.out ?_
          rotate_left
          · intro w9 h9
            have c5 := h9
            first | (go_simp; with_reducible rfl) | go_simp
          try simp only [Act.put]
          refine wpAnyD_take (i := 14) (v := ?_) rfl (by kernel_rfl) (fun _ _ _ h => h) (Or.inl ⟨by kernel_rfl, ?_⟩) T3.out ?_
          rotate_left
          · intro w9 h9
            have c5 := h9
            first | (go_simp; with_reducible rfl) | go_simp
          try simp only [Act.put]
          refine wpAnyD_take (i := 16) (v := ?_) rfl (by kernel_rfl) (fun _ _ _ h => h) (Or.inl ⟨by kernel_rfl, ?_⟩) T3.out ?_
          rotate_left
          · intro w9 h9
            have c5 := h9
            first | (go_simp; with_reducible rfl) | go_simp
          try simp only [Act.put]
          refine wpAnyD_take (i := 17) (v := ?_) rfl (by kernel_rfl) (fun _ _ _ h => h) (Or.inl ⟨by kernel_rfl, ?_⟩) T3.out ?_
          rotate_left
          · intro w9 h9
            have c5 := h9
            first | (go_simp; with_reducible rfl) | go_simp
          try simp only [Act.put]
          refine wpAnyD_take (i := 18) (v := ?_) rfl (by kernel_rfl) (fun _ _ _ h => h) (Or.inl ⟨by kernel_rfl, ?_⟩) T3.out ?_
          rotate_left
          · intro w9 h9
            have c5 := h9
            first | (go_simp; with_reducible rfl) | go_simp
          try simp only [Act.put]
          refine wpAnyD_take (i := 19) (v := ?_) rfl (by kernel_rfl) (fun _ _ _ h => h) (Or.inl ⟨by kernel_rfl, ?_⟩) T3.out ?_
          rotate_left
          · intro w9 h9
            have c5 := h9
            first | (go_simp; with_reducible rfl) | go_simp
          try simp only [Act.put]
          refine wpAnyD_oneG (j := 15) (by kernel_rfl) rfl rfl (by kernel_rfl) (fun K hK => ?_)
          go_simp
          refine H9.out.mono ?_
          rintro e w8 ⟨rfl, rfl⟩
          refine hK.out _ _ T3.out ?_
          clear hK K
          try simp only [Act.put, List.setIfInBounds_toArray, List.set_cons_zero, List.set_cons_succ]
          refine wpAnyD_take (i := 20) (v := ?_) rfl (by kernel_rfl) (fun _ _ _ h => h) (Or.inl ⟨by kernel_rfl, ?_⟩) T3.out ?_
          rotate_left
          · intro w9 h9
            have c5 := h9
            first | (go_simp; with_reducible rfl) | go_simp
          try simp only [Act.put, List.getElem_toArray, List.getElem_cons_zero, List.getElem_cons_succ, List.setIfInBounds_toArray, List.set_cons_zero, List.set_cons_succ]
          refine wpAnyD_take (i := 21) (v := ?_) rfl (by kernel_rfl) (fun _ _ _ h => h) (Or.inl ⟨by kernel_rfl, ?_⟩) T3.out ?_
          rotate_left
          · intro w9 h9
            have c5 := h9
            first | (go_simp; with_reducible rfl) | go_simp
          try simp only [Act.put, List.getElem_toArray, List.getElem_cons_zero, List.getElem_cons_succ, List.setIfInBounds_toArray, List.set_cons_zero, List.set_cons_succ]
          refine ⟨by kernel_rfl, ?_⟩
          go_wp2
          go_meet
          exact ⟨rfl, Lib.hid ⟨K7, S7.out⟩⟩
--R14END
        case rest =>
          obtain ⟨rfl, HX⟩ := hcut
          clear S5 H6 H7 c0 c1 c2 c3 c4 j1 j2 HC HM HM2
          obtain ⟨K7, S7⟩ := HX.out
          replace S7 := Lib.hid S7
          clear HX
          have HOL := Lib.hid (ok_load d6)
          obtain ⟨⟨le, lm⟩, hld⟩ : ∃ r, MfSpec.load d6 = r := ⟨_, rfl⟩
          have H8 := (P.load wc K7 1 p d6 S7.out.disk HS6.out (laid_up HL.out S7.out.below)).mono fun e w' h => rpost_open h HOL.out
          have H9 := fun w9 K9 (h : RefD w9 K9 2 q d6) => (rload_any w9 K9 2 q d6 h HS6.out).mono fun e w' h => rpost_open h HOL.out
          rw [hld] at H8 HOL
          simp only [hld] at H9
          replace H8 := Lib.hid H8
          replace H9 := Lib.hid H9
          clear hld
          simp only at H8 H9
          go_wp2_with fail
          refine H8.out.mono ?_
          rintro e w8 ⟨n0, n1, n2, n3, nl, nA, nn, nc, rfl, hnn, hok8, hb8⟩
          have HN8 := Lib.hid hnn
          have hal : Below w8.heap.size w8 (w8.alloc (boxM (⟨n0, n1, n2, n3, nl⟩, nA, nn, nc))) := (Below.refl _ w8).alloc (Nat.le_refl _) _
          have S8 := Lib.hid (S7.out.call (hb8.trans (hal.mono hb8.size)))
          have HK8 := Lib.hid (hok8.below hal)
          have X8 : Hid (BoxM (w8.alloc (boxM (⟨n0, n1, n2, n3, nl⟩, nA, nn, nc))) w8.heap.size (⟨n0, n1, n2, n3, nl⟩, nA, nn, nc)) := Lib.hid (boxed1 w8 _)
          have l8 : w8.heap.size < (w8.alloc (boxM (⟨n0, n1, n2, n3, nl⟩, nA, nn, nc))).heap.size := by simp
          clear hnn hok8 hal hb8 S7 H8
          have H10 := Lib.hid (H9.out _ _ S8.out.ref)
          clear H9
          unfold boxM at S8 HK8 X8 l8 H10
          simp only at S8 HK8 X8 l8 H10
          go_wp2_with fail
          refine H10.out.mono ?_
          rintro e w9 ⟨o0, o1, o2, o3, ol, oA, on_, oc, rfl, hoo, hok9, hb9⟩
          have HO9 := Lib.hid hoo
          have hal : Below w9.heap.size w9 (w9.alloc (boxM (⟨o0, o1, o2, o3, ol⟩, oA, on_, oc))) := (Below.refl _ w9).alloc (Nat.le_refl _) _
          have hba := hb9.trans (hal.mono hb9.size)
          have S9 := Lib.hid (S8.out.call hba)
          have HK9 := Lib.hid (hok9.below hal)
          have HM9 := Lib.hid (HK8.out.below hba)
          have X9 := Lib.hid (X8.out.up hba l8)
          have Y9 : Hid (BoxM (w9.alloc (boxM (⟨o0, o1, o2, o3, ol⟩, oA, on_, oc))) w9.heap.size (⟨o0, o1, o2, o3, ol⟩, oA, on_, oc)) := Lib.hid (boxed1 w9 _)
          clear hoo hok9 hal hb9 hba S8 H10 HK8 X8 l8
          unfold boxM at S9 HK9 HM9 X9 Y9
          simp only at S9 HK9 HM9 X9 Y9
          have j1 : ((le : Int) != (le : Int)) = false := by simp
          have HSM := Lib.hid (same_same _ n0 n1 n2 n3 nl nA nn nc o0 o1 o2 o3 ol oA on_ oc HM9.out HK9.out true (decide_eq_true (HN8.out.trans HO9.out.symm)))
          go_upto_region 18 with (fail)
          obtain ⟨W9, hW9⟩ : ∃ W9, w9.alloc (.cells #[.int .i64 o0, .int .i64 o1, .int .u64 (o2.toNat : Int), .int .i64 o3, .slice oA on_ oc] 37) = W9 := ⟨_, rfl⟩
          rw [hW9] at S9 HK9 HM9 X9 Y9 HSM
          rw [hW9]
          clear hW9
          obtain ⟨x0, x1, x2, x3, x4⟩ := X9.out
          obtain ⟨y0, y1, y2, y3, y4⟩ := Y9.out
          simp only at x0 x1 x2 x3 x4 y0 y1 y2 y3 y4
          go_wp2_with fail
          refine HSM.out.mono ?_
          rintro e w10 ⟨rfl, hb10⟩
          have S10 := Lib.hid (S9.out.call hb10)
          clear hb10 HSM S9 HK9 HM9 X9 Y9 x0 x1 x2 x3 x4 y0 y1 y2 y3 y4 j1
          obtain ⟨K10, S10⟩ : ∃ K10, Hid (Fs w K10 p q d6 d6 w10) := ⟨_, S10⟩
          have q2 := S10.out.off
          obtain ⟨off, hoff⟩ : ∃ off, d6.off = off := ⟨_, rfl⟩
          rw [hoff] at q2
          clear hoff
          go_upto_if 109 with (fail)
          go_cut [121] from 110 to 122 (fun _ wx => Hid (∃ K d, Fs w K p q d d wx ∧ Small d))
          case first =>
            cases off with
            | false =>
              go_wp2
              go_meet
              exact Lib.hid ⟨K10, d6, S10.out, HS6.out⟩
            | true =>
              obtain ⟨x, hx⟩ : ∃ x, IntKind.i64.wrap (2 * (k : Int)) = x := ⟨_, rfl⟩
              have hxi : In64 x := by
                rw [← hx, IntKind.wrap_i64]
                unfold In64
                constructor <;> omega
              have HBA : Hid (Below w10.heap.size w10 (w10.alloc (.cells #[.int .i64 (k : Int), .int .i64 x] 3))) := Lib.hid ((Below.refl _ w10).alloc (Nat.le_refl _) _)
              have S11 := Lib.hid (S10.out.call HBA.out)
              have hki : In64 (k : Int) := by
                unfold In64
                constructor <;> omega
              have hin : ∀ y ∈ [(k : Int), x], -9223372036854775808 ≤ y ∧ y ≤ 9223372036854775807 := fun y hy => by
                simp at hy
                rcases hy with rfl | rfl
                · exact hki
                · exact hxi
              have HIN := Lib.hid hin
              have H11 := Lib.hid (PdRes.restart_any _ _ 1 p d6 [(k : Int), x] (some ⟨w10.heap.size, 0, none⟩) 2 S11.out.disk (small_few HS6.out) (lit_rd w10 #[.int .i64 (k : Int), .int .i64 x] 3 (0, 0)) (fun b off e h => lit_kind (by decide) b off e h) hin (by simp) (by unfold maxLen; omega))
              unfold PdOps.MPost at H11
              clear hin
              go_wp2_with fail
              refine H11.out.mono ?_
              rintro e w12 ⟨rfl, K12, hd12, ht12⟩
              have S12 := Lib.hid (S11.out.one hd12 ht12)
              have S13 := Lib.hid (S12.out.call (wy := w12.alloc (.cells #[.int .i64 (k : Int), .int .i64 x] 3)) ((Below.refl _ w12).alloc (Nat.le_refl _) _))
              clear hd12 ht12 H11 S10 S11 S12 HBA
              have H13 := Lib.hid (RefRes5.restart_any _ _ 2 q d6 [(k : Int), x] (some ⟨w12.heap.size, 0, none⟩) 2 S13.out.ref (by decide) (small_few HS6.out) (small_hz HS6.out) (lit_rd w12 #[.int .i64 (k : Int), .int .i64 x] 3 (0, 0)) (fun b off e h => by rw [show PdSt.mark K12 w12.heap.size 0 b = 0 from PdSt.mark_new (by injection e with e; injection e with e; omega)]; decide) HIN.out (by simp) (by unfold maxLen; omega))
              unfold RefTake.MPost at H13
              go_wp2_with fail
              refine H13.out.mono ?_
              rintro e w14 ⟨rfl, K14, hd14, ht14⟩
              have S14 := Lib.hid (S13.out.two hd14 ht14)
              clear hd14 ht14 H13 S13
              go_wp2
              go_meet
              exact Lib.hid ⟨K14, _, S14.out, small_restart HS6.out _⟩
          case rest =>
            clear S10 HS6 HN8 HO9 HOL q2
            obtain ⟨K20, D, S20, hsD⟩ := hcut.out
            replace S20 := Lib.hid S20
            have HSD := Lib.hid hsD
            clear hsD hcut
            have HNL := Lib.hid (names_len HSD.out)
            have HLF := Lib.hid (list_few HSD.out)
            have H20 := PdList.list_any wc K20 1 p D S20.out.disk (small_few HSD.out)
            have H21 := fun w' K' (h : RefD w' K' 2 q D) => RefList5.list_any w' K' 2 q D h (small_few HSD.out)
            obtain ⟨⟨ee, L⟩, hL⟩ : ∃ r, DkSpec.list D = r := ⟨_, rfl⟩
            rw [hL] at H20 HNL HLF
            simp only [hL] at H21
            replace H20 := Lib.hid H20
            replace H21 := Lib.hid H21
            clear hL
            unfold PdList.LsPost at H20
            unfold RefList5.LsPost at H21
            simp only at H20 H21 HNL HLF
            go_wp2_with fail
            refine H20.out.mono ?_
            rintro e w21 ⟨v, rfl, hown, hb⟩
            obtain ⟨A1, c1, rfl, _, _, _⟩ := Put.own_slice hown
            have R21 := Lib.hid (Rd.of_own hown)
            have S21 := Lib.hid (S20.out.call hb)
            clear hown hb H20 S20
            have H22 := Lib.hid (H21.out _ _ S21.out.ref)
            clear H21
            go_wp2_with fail
            refine H22.out.mono ?_
            rintro e w22 ⟨v, rfl, hown, hb⟩
            obtain ⟨A2, c2, rfl, _, _, _⟩ := Put.own_slice hown
            have R22 := Lib.hid (Rd.of_own hown)
            have R23 := Lib.hid ((R21.out.below hb).more hb.size)
            have S22 := Lib.hid (S21.out.call hb)
            clear hown hb H22 S21 R21
            obtain ⟨K22, S22⟩ : ∃ K22, Hid (Fs w K22 p q D D w22) := ⟨_, S22⟩
            obtain ⟨N, hN'⟩ : ∃ N, L.length = N := ⟨_, rfl⟩
            have HNN := Lib.hid hN'
            have hNl : N ≤ 1000000000 := by rw [← hN']; exact HLF.out
            rw [hN']
            clear hN' HLF
            have j1 : ((ee : Int) != (ee : Int)) = false := by simp
            have j2 : ((N : Int) != (N : Int)) = false := by simp
            go_wp2
            go_loopw [16] (fun i wr => NRel w22 N i wr) (fun v _ => N - (intOf v).toNat)
            case atStart => exact ⟨0, Nat.zero_le _, rfl, Lib.hid (Below.refl _ _)⟩
            case round =>
              obtain ⟨j, hj, rfl, HBJ⟩ := hrel
              by_cases hjn : j < N
              case neg =>
                obtain rfl : j = N := by omega
                go_wp2
                exact ⟨⟨k + 1, by omega, by go_num, Lib.hid ⟨_, D, S22.out.call HBJ.out, HSD.out⟩⟩, by simp [intOf]; omega⟩
              have i3 : (0 : Int) ≤ (j : Int) := by omega
              have i4 : (j : Int) < (N : Int) := by omega
              have S30 := Lib.hid (S22.out.call HBJ.out)
              obtain ⟨K30, S30⟩ : ∃ K30, Hid (Fs w K30 p q D D wr) := ⟨_, S30⟩
              obtain ⟨a, ha⟩ : ∃ a, L[j]? = some a := ⟨_, List.getElem?_eq_getElem (by have := HNN.out; omega)⟩
              have hal := HNL.out a (List.mem_of_getElem? ha)
              obtain ⟨g1, b1, rfl, hg1, hc1⟩ := R23.out (by rw [List.length_map]; have := HNN.out; omega)
              obtain ⟨g2, b2, rfl, hg2, hc2⟩ := R22.out (by rw [List.length_map]; have := HNN.out; omega)
              have HA1 := Lib.hid (hc1 j (.string ⟨a.toArray⟩) (by rw [List.getElem?_map, ha]; rfl))
              have HA2 := Lib.hid (hc2 j (.string ⟨a.toArray⟩) (by rw [List.getElem?_map, ha]; rfl))
              clear hc1 hc2 ha
              have k1 : wr.cell? ⟨g1, b1 + j, none⟩ = some (.string ⟨a.toArray⟩) := (HBJ.out.cell (p := ⟨g1, b1 + j, none⟩) hg1).trans HA1.out
              have H30 := PdRead.read_any wr K30 1 p D a S30.out.disk (by unfold maxLen; omega) (small_big HSD.out)
              have H31 := fun w' K' (h : RefD w' K' 2 q D) => RefRead5.read_any w' K' 2 q D a h (by unfold maxLen; omega)
              obtain ⟨⟨re, rb⟩, hrd⟩ : ∃ r, DkSpec.read a D = r := ⟨_, rfl⟩
              rw [hrd] at H30
              simp only [hrd] at H31
              unfold PdRead.RdPost at H30
              unfold RefRead5.RdPost at H31
              simp only at H30 H31
              replace H30 := Lib.hid H30
              replace H31 := Lib.hid H31
              clear hrd hal
              go_wp2_with fail
              refine H30.out.mono ?_
              rintro e w31 ⟨v, rfl, hown, hb⟩
              obtain ⟨A3, c3, rfl, _, _, _⟩ := Put.own_slice hown
              have R31 := Lib.hid (Rd.of_own hown)
              have S31 := Lib.hid (S30.out.call hb)
              have HBW := Lib.hid (HBJ.out.trans (hb.mono HBJ.out.size))
              clear hown hb H30 S30 k1
              have H32 := Lib.hid (H31.out _ _ S31.out.ref)
              clear H31
              have k2 : w31.cell? ⟨g2, b2 + j, none⟩ = some (.string ⟨a.toArray⟩) := (HBW.out.cell (p := ⟨g2, b2 + j, none⟩) hg2).trans HA2.out
              go_wp2_with fail
              refine H32.out.mono ?_
              rintro e w32 ⟨⟨A4, c4, rfl, _, _, hrd, _⟩, rfl⟩
              have R32 := Lib.hid hrd
              clear hrd H32 k2
              have k1 : w31.cell? ⟨g1, b1 + j, none⟩ = some (.string ⟨a.toArray⟩) := (HBW.out.cell (p := ⟨g1, b1 + j, none⟩) hg1).trans HA1.out
              have k2 : w31.cell? ⟨g2, b2 + j, none⟩ = some (.string ⟨a.toArray⟩) := (HBW.out.cell (p := ⟨g2, b2 + j, none⟩) hg2).trans HA2.out
              have r1 := fun m => Reading.run_str (w31.drewN m) A3 rb.length c3 rfl R31.out
              have r2 := fun m => Reading.run_str (w31.drewN m) A4 rb.length c4 rfl R32.out
              have j5 : (rb != rb) = false := by simp
              have j6 : (a != a) = false := by simp
              go_upto_region 32 with (fail)
              go_quiet (fail)
              go_wp2
              go_roundw
              case rel => exact ⟨j + 1, by omega, by go_num, Lib.hid (below_drewN HBW.out _)⟩
              case measure => simp [intOf]; omega
end Go.Proofs.YtjninegpaoblfaaGreatDoor.MfFilesW
