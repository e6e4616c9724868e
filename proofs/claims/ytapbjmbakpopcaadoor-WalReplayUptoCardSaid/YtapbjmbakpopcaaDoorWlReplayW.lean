/- WalReplay's own walk, over the contracts of the program's log. -/
import Derived.Test.YtapbjmbakpopcaaDoorWlRun
namespace Go.Proofs.YtapbjmbakpopcaaDoor.WlReplayW
open Go Go.RowKit Words DkSpec PdLook RefDisk PdDisk PdOps PdRes WlSpec WlName WlHeld WlLog WlMv Parts5 WlLaw WlTot WlSt WlAwake WlRun

set_option maxHeartbeats 12800000 in
set_option maxRecDepth 100000 in
theorem replay_any {LogR : World → Nat → Nat → LSt → Prop} (P : Wal LogR) (w : World) (hL : WlTab.Lays w w.heap.size) (pl : List Part) (Ap : Option Addr) (cp : Nat) (hp : Ps w Ap pl.length cp pl) (sy : List UInt8) (As : Option Addr) (cs : Nat) (hs : Rd w w.heap.size As (sy.map B8)) (hcs : sy.length ≤ cs) (hms : cs ≤ maxLen)
    (at_ : Int) (h64 : In64 at_) (ks : List Int) (Ak : Option Addr) (ck : Nat) (hk : Rd w w.heap.size Ak (ks.map I64)) (hck : ks.length ≤ ck) (hmk : ck ≤ maxLen) (hks : ∀ k ∈ ks, -9223372036854775808 ≤ k ∧ k ≤ 9223372036854775807) (hb : (all pl).length + pl.length ≤ 1048576) :
    Calls Tryd.prog 7 #[.slice Ap pl.length cp, .slice As sy.length cs, .int .i64 at_, .slice Ak ks.length ck] w fun e w' => e = .returned (.bool true) ∧ Below w.heap.size w w' := by
  obtain ⟨i1, gi, gz0, gz1, gz2⟩ := info_parts info_slice
  have HL := Lib.hid hL
  have HP := Lib.hid hp
  have HSY := Lib.hid hs
  have HKS := Lib.hid hk
  have HKI := Lib.hid hks
  have kc := fun (w : World) (C : Array Value) (n c : Nat) => Lib.run_convert_bytes_const (P := Tryd.prog) w 23 5 C n c Tryd.underlying23 Tryd.underlying5
  have H1 := Lib.hid (new_any w (fun _ => 0) 1)
  have hpl : pl.length ≤ 1048576 := by omega
  unfold maxLen at hms hmk
  clear hL hp hs hk hks
  go_enter Tryd.func7, Tryd.ntmps7
  go_wp2_with fail
  refine H1.out.mono ?_
  rintro e w1 ⟨p, K1, rfl, _, hd1, ht1⟩
  have S1 : Hid (DkSt w w1 K1 p fresh) := Lib.hid ⟨hd1, Mv.of (ht1 1) (.inl rfl)⟩
  have H2 := Lib.hid (P.opens w1 K1 p fresh 1 ⟨by decide, by decide⟩ S1.out.disk fresh_run.good fresh_fit (laid_keep HL.out S1.out.below))
  rw [fresh_open] at H2
  clear hd1 ht1 H1
  go_wp2_with fail
  refine H2.out.mono ?_
  rintro e w2 h2
  obtain ⟨g, A2, c2, ps2, rfl, hp2, hps2, hb2, hg2, hl2, hn2⟩ := op_some h2
  obtain rfl : ps2 = [] := List.eq_nil_of_length_eq_zero (by rw [← pays_len, hp2]; rfl)
  obtain ⟨s2, _⟩ := S1.out.opened P hb2 hl2 hg2
  have T2 := Lib.hid s2
  simp only [List.length_nil]
  clear h2 hp2 hps2 hb2 hg2 hl2 hn2 s2 H2 S1
  obtain ⟨r, hr⟩ : ∃ r : Nat, (IntKind.u64.wrap at_).tmod 80 = (r : Int) := ⟨((IntKind.u64.wrap at_).tmod 80).toNat, by
    have h0 : 0 ≤ IntKind.u64.wrap at_ := by rw [IntKind.wrap_u64]; omega
    rw [Int.tmod_eq_emod_of_nonneg h0]
    omega⟩
  have hr79 : r ≤ 79 := by
    have h0 : 0 ≤ IntKind.u64.wrap at_ := by rw [IntKind.wrap_u64]; omega
    rw [Int.tmod_eq_emod_of_nonneg h0] at hr
    omega
  have er1 : IntKind.i64.wrap (r : Int) = (r : Int) := by rw [IntKind.wrap_i64]; omega
  have er2 : IntKind.i64.wrap ((r : Int) + 1) = (r : Int) + 1 := by rw [IntKind.wrap_i64]; omega
  have H3 := Lib.hid (arm_any w2 _ 1 p fresh ((r : Int) + 1) T2.out.disk (by omega) (by omega))
  unfold MPost at H3
  go_wp2_with fail
  refine H3.out.mono ?_
  rintro e w3 ⟨rfl, K3, hd3, ht3⟩
  obtain ⟨s3, _⟩ := T2.out.turned P hd3 ht3
  have T3 := Lib.hid s3
  clear hd3 ht3 s3 H3 T2 hr er1 er2
  go_wp2
  go_loopw [13, 14, 15] (fun vh vs vi wr => RRel LogR w p g pl vh vs vi wr) (fun _ _ vi _ => pl.length - (intOf vi).toNat)
  case atStart => exact ⟨0, 0, Nat.zero_le _, by omega, rfl, rfl, Lib.hid ⟨K3, _, _, [], [], 0, [], T3.out, run_start _, Nat.le_refl _, by have h1 := (tot_arm ((r : Int) + 1) fresh).1; have h2 : tot fresh = 0 := rfl; omega, by have h1 := (tot_arm ((r : Int) + 1) fresh).2; have h2 : fresh.files.length = 0 := rfl; omega, World.ownsRow_nil .., fun q e => (by cases e), fun q hq => (by cases hq), Nat.le_refl _, rfl, Nat.le_refl _⟩⟩
  case round =>
    obtain ⟨i, sv, hi, hi100, rfl, rfl, HRR⟩ := hrel
    clear T3
    by_cases hlt : i < pl.length ∧ i < 100
    · obtain ⟨hlt, h100⟩ := hlt
      obtain ⟨K, d, l, gs, C, c, had, hst, hrun, hn, htot, hfew, hown, hkh, hin, hhl, hpay, hsv⟩ := HRR.out
      have hargs := arg_st hst HP.out
      obtain ⟨b1, o1, rfl, hb1, hc1⟩ := hargs.mem.rd (by simp; omega)
      have k1 := hc1 i (SV pl[i]) (by rw [List.getElem?_map, List.getElem?_eq_getElem hlt]; rfl)
      have g1 := hargs.mem.each _ (List.getElem_mem hlt)
      have q1 := hargs.kE _ (List.getElem_mem hlt)
      have hal := all_next hlt
      have hal2 : (all (pl.take i)).length ≤ (all pl).length := Parts5.take_len pl i
      have hal3 : (all (pl.take (i + 1))).length ≤ (all pl).length := Parts5.take_len pl (i + 1)
      have HX : Hid (pl[i] ∈ pl) := Lib.hid (List.getElem_mem hlt)
      obtain ⟨x, hx⟩ : ∃ x, pl[i] = x := ⟨_, rfl⟩
      rw [hx] at k1 g1 q1 hal HX
      have HXE := Lib.hid hx
      clear hx
      have HST := Lib.hid hst
      have H4 := Lib.hid (P.append wr K p g d l x.l x.A x.c hst.disk hst.log hst.kg hrun.good ⟨by omega, by omega⟩ (by omega) hrun.few (laid_keep HL.out hst.below) g1.1 g1.2.1 g1.2.2 (fun o j e hx => by have := q1 o j e hx; unfold S2 at this; omega))
      have ht4 := tot_appendL x.l l d
      have hra := run_append hrun x.l
      have hnn := append_n x.l l d
      unfold SV at k1
      have j1 : (0 : Int) ≤ (i : Int) := by omega
      have j2 : (i : Int) < (pl.length : Int) := by omega
      have j3 : (i : Int) < 100 := by omega
      obtain ⟨D4, hD4⟩ : ∃ D4, appendL x.l l d = D4 := ⟨_, rfl⟩
      rw [hD4] at H4 ht4 hra hnn
      obtain ⟨e4, l4, d4⟩ := D4
      simp only at ht4 hra hnn
      have HTB : Hid (tot d4 ≤ (all (pl.take (i + 1))).length + 14 * (i + 1) ∧ d4.files.length ≤ i + 1) := Lib.hid (by omega)
      have HTD : Hid (tot d ≤ (all (pl.take (i + 1))).length + 14 * (i + 1) ∧ d.files.length ≤ i + 1) := Lib.hid (by omega)
      have HOWN := Lib.hid hown
      have HKH := Lib.hid hkh
      have HIN := Lib.hid hin
      have HPAY := Lib.hid hpay
      have HG1 := Lib.hid g1
      have HRDX := Lib.hid (show Rd wr wr.heap.size (some ⟨b1, o1, none⟩) (pl.map SV) from hargs.mem.rd)
      clear hD4 ht4 htot hfew hargs hc1 hal hal2 hal3 q1 hst hown hkh hin hpay HRR g1
      rcases hra with ⟨rfl, hoff, hx6, hrun4⟩ | ⟨rfl, hd4⟩ | ⟨rfl, hoff, hd4⟩
      case' inl =>
        have HR4 := Lib.hid hrun4
        clear hrun4 hoff
        go_wp2_with fail
        refine H4.out.mono ?_
        rintro e w4 h4
        obtain ⟨rfl, K4, s4, m4⟩ := HST.out.step P h4
        obtain ⟨o4, kh4⟩ := own_mv2 HOWN.out HKH.out m4
        have hal4 : Below w4.heap.size w4 (w4.alloc (.cells #[.slice x.A x.l.length x.c] 23)) := (Below.refl _ w4).alloc (Nat.le_refl _) _
        have T4 := Lib.hid s4
        have O4 := Lib.hid o4
        have KH4 := Lib.hid kh4
        have HMD := Lib.hid (Rd.made w4 #[.slice x.A x.l.length x.c] 23)
        have k4 := part_cell (s4.below |> HP.out.below) rfl hlt
        rw [HXE.out] at k4
        unfold SV at k4
        clear h4 s4 m4 o4 kh4 H4 HST k1
        go_wp2_with (at_builtin; refine App.wpList_append_rd _ rfl (.tmp 53) (.tmp 58) 22 rfl w.heap.size 23 i1 (.slice none 0 0) 24 Tryd.underlying22 gi gz0 gz1 gz2 rfl _ _ _ rfl (O4.out.alloc _) (w4.heap.size + 1) (some ⟨w4.heap.size, 0, none⟩) 1 1 [.slice x.A x.l.length x.c] rfl rfl HMD.out ?f1 ?f2 ?f3 ?f4 ?_)
        case f1 => intro u hu; simp at hu; subst hu; rfl
        case f2 => unfold maxLen; omega
        case f3 => omega
        case f4 => have := T4.out.mv.size; simp; omega
        intro vh5 w5 hown5 hg5 hv5
        obtain ⟨t5, _⟩ := T4.out.new P hal4 3
        have S5 := Lib.hid (own_st P t5 hg5 (fun q e => ⟨by rw [kmark_old (O4.out.lt q e).2]; exact KH4.out q e, (O4.out.lt q e).1⟩))
        have HRR5 : Hid (RR LogR w p g pl (1 + i) (i + 1) vh5 sv w5) := Lib.hid ⟨_, _, _, gs, C ++ [x.l], c, had ++ [x], S5.out, HR4.out, by omega, HTB.out.1, HTB.out.2, by rw [List.map_append, List.length_append]; exact hown5, own_kind (O4.out.alloc _) (fun q e => by rw [kmark_old (O4.out.lt q e).2]; exact KH4.out q e) (by simpa using hv5), fun q hq => (List.mem_append.1 hq).elim (HIN.out q) (fun h => by rw [List.mem_singleton.1 h]; exact HX.out), by simp; omega, by unfold pays at *; rw [List.map_append, HPAY.out]; simp, by omega⟩
        clear hown5 hg5 hv5 t5 S5 HR4 O4 KH4 T4 HMD hal4 k4
        go_upto_region 16 with (fail)
      case' inr.inl =>
        obtain ⟨rfl, rfl⟩ := Prod.mk.inj hd4
        go_wp2_with fail
        refine H4.out.mono ?_
        rintro e w5 h4
        obtain ⟨rfl, K4, s4, m4⟩ := HST.out.step P h4
        obtain ⟨o4, kh4⟩ := own_mv2 HOWN.out HKH.out m4
        have HRR5 : Hid (RR LogR w p g pl (1 + i) (i + 1) _ sv w5) := Lib.hid ⟨K4, _, _, gs, C, c, had, s4, hrun, hn, HTD.out.1, HTD.out.2, o4, kh4, HIN.out, by omega, HPAY.out, hsv⟩
        clear h4 s4 m4 o4 kh4 H4 HST k1
        go_upto_region 16 with (fail)
      case' inr.inr =>
        obtain ⟨rfl, rfl⟩ := Prod.mk.inj hd4
        go_wp2_with fail
        refine H4.out.mono ?_
        rintro e w4 h4
        obtain ⟨rfl, K4, s4, m4⟩ := HST.out.step P h4
        obtain ⟨o4, kh4⟩ := own_mv2 HOWN.out HKH.out m4
        have HRR5 : Hid (RR LogR w p g pl (1 + i) (i + 1) _ sv w4) := Lib.hid ⟨K4, _, _, gs, C, c, had, s4, hrun, hn, HTD.out.1, HTD.out.2, o4, kh4, HIN.out, by omega, HPAY.out, hsv⟩
        have H5 := Lib.hid (down_pd s4.disk)
        rw [hoff] at H5
        clear h4 s4 m4 o4 kh4 H4 HST k1
        go_wp2_with fail
        refine H5.out.mono ?_
        rintro e w5 ⟨rfl, rfl⟩
        go_upto_region 16 with (fail)
      all_goals
        obtain ⟨K5, d5, l5, gs5, C5, c5, had5, hst5, hrun5, hn5, htot5, hfew5, hown5, hkh5, hin5, hhl5, hpay5, hsv5⟩ := HRR5.out
        have HST5 := Lib.hid hst5
        have HRUN5 := Lib.hid hrun5
        have HOWN5 := Lib.hid hown5
        have HKH5 := Lib.hid hkh5
        have HIN5 := Lib.hid hin5
        have HPAY5 := Lib.hid hpay5
        have hn5c := hrun5.few
        have hlen5 : (pays had5).length = gs5.flatten.length + C5.length := by rw [hpay5, List.length_append]
        rw [pays_len] at hlen5
        have HLEN5 := Lib.hid hlen5
        clear hlen5
        obtain ⟨A5, cA5, rfl, _, _, _⟩ := Put.own_slice HOWN5.out
        by_cases hsy : i < sy.length
        · obtain ⟨b2, o2, e2, hb2, hc2⟩ := HSY.out (by simp; omega)
          cases e2
          have hb2' := hb2
          have k0 := cell8 hc2 hsy
          have k2 := (hst5.below.cell (p := ⟨b2, o2 + i, none⟩) hb2).trans k0
          have hx := (sy[i]).toNat_lt
          generalize (sy[i]).toNat = y at *
          have j4 : ¬ ((sy.length : Int) ≤ (i : Int)) := by omega
          have j5 : (i : Int) < (sy.length : Int) := by omega
          obtain ⟨z, hz⟩ : ∃ z : Nat, y % 3 = z := ⟨_, rfl⟩
          have hz3 : z < 3 := by omega
          have et : ((y : Int)).tmod 3 = (z : Int) := by rw [Int.tmod_eq_emod_of_nonneg (by omega)]; omega
          have H6 := Lib.hid (P.sync _ K5 p g d5 l5 hst5.disk hst5.log hst5.kg hrun5.good hrun5.few (laid_keep HL.out hst5.below))
          have hsync := run_sync hrun5
          have hfull := sync_full hrun5
          have ht6 := tot_syncL l5 d5
          obtain ⟨D6, hD6⟩ : ∃ D6, syncL l5 d5 = D6 := ⟨_, rfl⟩
          rw [hD6] at H6 hsync hfull ht6
          obtain ⟨e6, d6⟩ := D6
          simp only at H6 hsync hfull ht6
          clear hst5 hrun5 hown5 hkh5 hin5 hpay5 hb2 hc2 hD6 hx
          by_cases hz0 : z = 0
          · have jz : ((z : Int) == 0) = true := by simp [hz0]
            go_wp2
            go_roundw
            case rel => exact ⟨i + 1, sv, by omega, by omega, by go_num, rfl, Lib.hid (rr_more HRR5.out)⟩
            case measure => simp [intOf]; omega
          · have jz : ((z : Int) == 0) = false := by simp [hz0]
            rcases hsync with ⟨rfl, hrun6⟩ | ⟨rfl, hoff, hd6⟩
            · have HRUN6 := Lib.hid hrun6
              clear hrun6
              go_wp2_with fail
              refine H6.out.mono ?_
              rintro e w7 h7
              obtain ⟨rfl, K7, s7, m7⟩ := HST5.out.step P h7
              obtain ⟨o7, kh7⟩ := own_mv2 HOWN5.out HKH5.out m7
              have k7 := (s7.below.cell (p := ⟨b2, o2 + i, none⟩) hb2').trans k0
              have T7 := Lib.hid s7
              have O7 := Lib.hid o7
              have KH7 := Lib.hid kh7
              clear h7 s7 m7 o7 kh7 H6 k2
              by_cases hz2 : z = 2
              · have jz2 : ((z : Int) == 2) = true := by simp [hz2]
                have H8 := Lib.hid (P.rotate w7 K7 p g d6 l5 T7.out.disk T7.out.log T7.out.kg hn5c)
                obtain ⟨r1, r2, gs8, C8, c8, r3, r4, r5⟩ := rotate_run HRUN6.out (hfull trivial) (by unfold most; omega)
                rw [r1] at H8
                go_wp2_with fail
                refine H8.out.mono ?_
                rintro e w8 h8
                obtain ⟨rfl, K8, s8, m8⟩ := T7.out.step P h8
                obtain ⟨o8, kh8⟩ := own_mv2 O7.out KH7.out m8
                have HRR8 : Hid (RR LogR w p g pl (1 + (i + 1)) (i + 1) _ had5.length w8) := Lib.hid ⟨K8, _, _, gs8, C8, c8, had5, s8, r3, by show (rotateL l5).2.n ≤ _; omega, by show tot d6 ≤ _; omega, by show d6.files.length ≤ _; omega, o8, kh8, HIN5.out, hhl5, HPAY5.out.trans r4.symm, by have := HLEN5.out; omega⟩
                clear h8 s8 m8 o8 kh8 H8 r3 r4 r5
                go_wp2
                go_roundw
                case rel => exact ⟨i + 1, had5.length, by omega, by omega, by go_num, rfl, HRR8⟩
                case measure => simp [intOf]; omega
              · have jz2 : ((z : Int) == 2) = false := beq_eq_false_iff_ne.2 (by omega)
                have HRR8 : Hid (RR LogR w p g pl (1 + (i + 1)) (i + 1) _ had5.length w7) := Lib.hid ⟨K7, _, _, gs5, C5, C5.length, had5, T7.out, HRUN6.out, by show l5.n ≤ _; omega, by show tot d6 ≤ _; omega, by show d6.files.length ≤ _; omega, O7.out, KH7.out, HIN5.out, hhl5, HPAY5.out, by have := HLEN5.out; omega⟩
                go_wp2
                go_roundw
                case rel => exact ⟨i + 1, had5.length, by omega, by omega, by go_num, rfl, HRR8⟩
                case measure => simp [intOf]; omega
            · subst hd6
              go_wp2_with fail
              refine H6.out.mono ?_
              rintro e w7 h7
              obtain ⟨rfl, K7, s7, m7⟩ := HST5.out.step P h7
              obtain ⟨o7, kh7⟩ := own_mv2 HOWN5.out HKH5.out m7
              have HRR8 : Hid (RR LogR w p g pl (1 + (i + 1)) (i + 1) _ sv w7) := Lib.hid ⟨K7, _, _, gs5, C5, c5, had5, s7, HRUN5.out, by show l5.n ≤ _; omega, htot5, hfew5, o7, kh7, HIN5.out, hhl5, HPAY5.out, hsv5⟩
              have H7 := Lib.hid (down_pd s7.disk)
              simp only at H7
              rw [hoff] at H7
              clear h7 s7 m7 o7 kh7 H6
              go_wp2_with fail
              refine H7.out.mono ?_
              rintro e w8 ⟨rfl, rfl⟩
              go_wp2
              go_roundw
              case rel => exact ⟨i + 1, sv, by omega, by omega, by go_num, rfl, HRR8⟩
              case measure => simp [intOf]; omega
        · have j4 : (sy.length : Int) ≤ (i : Int) := by omega
          clear hst5 hrun5 hown5 hkh5 hin5 hpay5
          go_wp2
          go_roundw
          case rel => exact ⟨i + 1, sv, by omega, by omega, by go_num, rfl, Lib.hid (rr_more HRR5.out)⟩
          case measure => simp [intOf]; omega
    · obtain ⟨K, d, l, gs, C, c, had, hst, hrun, hn, htot, hfew, hown, hkh, hin, hhl, hpay, hsv⟩ := HRR.out
      have hal2 : (all (pl.take i)).length ≤ (all pl).length := Parts5.take_len pl i
      obtain ⟨Ah, ch, rfl, _, _, _⟩ := Put.own_slice hown
      obtain ⟨j, hj1, hj2, gh, f1, f2, f3, f4, f5, f6, f7⟩ := run_crash hrun ks (by unfold most; omega)
      have hgl : gh.length ≤ 102 := by omega
      have hkr : Rd wr wr.heap.size Ak (ks.map I64) := (HKS.out.below hst.below).more hst.below.size
      have hkk : ∀ b off, Ak = some ⟨b, off, none⟩ → 0 < ks.length → K b ≠ 1 := fun b off e hl => by
        obtain ⟨b', off', e', hb', _⟩ := HKS.out (by simpa using hl)
        rw [e] at e'
        cases e'
        have := old_kind hst.mv hb'
        unfold S2 at this
        omega
      have H5 := Lib.hid (restart_any wr K 1 p d ks Ak ck hst.disk (by omega) hkr hkk HKI.out hck (by unfold maxLen; omega))
      unfold MPost at H5
      have ht5 := tot_restart ks d
      have hfl : gh.flatten.length = gs.flatten.length + j := by rw [f1, List.length_append, List.length_take]; omega
      have hpl2 : had.length = gs.flatten.length + C.length := by rw [← pays_len, hpay, List.length_append]
      have HFL := Lib.hid hfl
      have HPL := Lib.hid hpl2
      have hsv2 : sv ≤ gh.flatten.length := by omega
      have hle2 : gh.flatten.length ≤ had.length := by omega
      have HEQ : Hid (pays (had.take gh.flatten.length) = gh.flatten) := Lib.hid (by
        rw [pays_take, hpay, hfl, f1, List.take_append, List.take_of_length_le (by omega)]
        congr 1
        congr 1
        omega)
      have HST := Lib.hid hst
      have HOWN := Lib.hid hown
      have HKH := Lib.hid hkh
      have HIN := Lib.hid hin
      have F2 := Lib.hid f3
      have F3 := Lib.hid f4
      have F4 := Lib.hid f5
      have F5 := Lib.hid f6
      have F6 := Lib.hid f7
      have hT5 : tot (restart ks d) ≤ 2000000 ∧ (restart ks d).files.length ≤ 200 := by omega
      clear hfl hpl2 hpay hst hown hkh hin hkr hkk f1 f2 f3 f4 f5 f6 f7 ht5 htot hfew hal2 hsv HRR
      rcases Nat.lt_or_ge i pl.length with hlt2 | hlt2
      case' inl =>
        have j1 : (i : Int) < (pl.length : Int) := by omega
        have j2 : ¬ (i : Int) < 100 := by omega
        go_wp2_with fail
      case' inr =>
        have j1 : ¬ (i : Int) < (pl.length : Int) := by omega
        go_wp2_with fail
      all_goals
        refine H5.out.mono ?_
        rintro e w5 ⟨rfl, K5, hd5, ht5⟩
        obtain ⟨s5, m5⟩ := HST.out.dk.turned hd5 ht5
        obtain ⟨o5, k5⟩ := own_mv2 HOWN.out HKH.out m5
        have T5 := Lib.hid s5
        have O5 := Lib.hid o5
        have KH5 := Lib.hid k5
        have H6 := Lib.hid (P.opens w5 K5 p _ 1 ⟨by decide, by decide⟩ T5.out.disk F2.out.good ⟨by omega, by omega⟩ (laid_keep HL.out T5.out.below))
        have ho := open_has F2.out (Nat.le_refl _) (by unfold most; omega)
        rw [show ((1 : Nat) : Int) = 1 from rfl] at ho
        rw [ho] at H6
        clear hd5 ht5 s5 m5 o5 k5 H5 HST HOWN HKH ho
        go_wp2_with fail
        refine H6.out.mono ?_
        rintro e w6 h6
        obtain ⟨g6, A6, c6, ps6, rfl, hp6, hps6, hb6, hg6, hl6, hn6⟩ := op_some h6
        obtain ⟨s6, m6⟩ := T5.out.opened P hb6 hl6 hg6
        obtain ⟨o6, k6⟩ := own_mv2 O5.out KH5.out m6
        have T6 := Lib.hid s6
        have PK6 := Lib.hid (PsK.opened (K := K5) hps6 hn6)
        have hl6' : ps6.length = gh.flatten.length := by rw [← pays_len, hp6]
        have HP6 := Lib.hid hp6
        have j3 : ¬ ((ps6.length : Int) < (sv : Int)) := by omega
        have j4 : ¬ ((had.length : Int) < (ps6.length : Int)) := by omega
        obtain ⟨_, hph⟩ := own_ps o6 s6.below HP.out HIN.out
        have hch : (ps6.length : Int) ≤ (ch : Int) := by have := hph.le; omega
        have h07 : (0 : Int) ≤ (ps6.length : Int) := by omega
        have H7 := Lib.hid (same_any w6 ps6 _ A6 _ _ _ c6 ch PK6.out.mem (hph.take ps6.length (by omega)))
        rw [show decide (pays ps6 = pays (had.take ps6.length)) = true by rw [decide_eq_true_eq, hl6', HEQ.out, hp6]] at H7
        have HL6 := Lib.hid hl6'
        clear h6 hp6 hps6 hb6 hg6 hl6 hn6 s6 m6 o6 k6 hph hl6' H6 T5 O5 KH5
        go_wp2_with fail
        refine H7.out.mono ?_
        rintro e w7 ⟨rfl, hb7⟩
        obtain ⟨s7, m7⟩ := T6.out.new P hb7 3
        have T7 := Lib.hid s7
        have PK7 := Lib.hid (PK6.out.mv m7)
        have H8 := Lib.hid (restart_any w7 _ 1 p _ [] none 0 T7.out.disk (by omega) (fun hn => absurd hn (by simp)) (fun b off e _ => by cases e) (fun k hk => by cases hk) (Nat.le_refl _) (by unfold maxLen; omega))
        unfold MPost at H8
        simp only [List.length_nil] at H8
        clear hb7 s7 m7 H7 T6 PK6
        go_wp2_with fail
        refine H8.out.mono ?_
        rintro e w8 ⟨rfl, K8, hd8, ht8⟩
        obtain ⟨s8, m8⟩ := T7.out.dk.turned hd8 ht8
        have T8 := Lib.hid s8
        have PK8 := Lib.hid (PK7.out.mv m8)
        have hA8 := has_again F2.out F5.out []
        have ht8 := tot_restart [] (restart ks d)
        have hfr8 : ∀ j, 1 + gh.length ≤ j → filed (name j) (restart [] (restart ks d)).files = none := fun j hj => (restart_look F2.out.good _).1 (F6.out j hj)
        have hfu8 : (restart [] (restart ks d)).full = false := rfl
        have hle8 : (restart [] (restart ks d)).left = -1 := rfl
        obtain ⟨d8, hd8e⟩ : ∃ d8, restart [] (restart ks d) = d8 := ⟨_, rfl⟩
        rw [hd8e] at T8 hA8 ht8 hfr8 hfu8 hle8
        have HA8 := Lib.hid hA8
        have HT8 : Hid (tot d8 ≤ 2000000 ∧ d8.files.length ≤ 200) := Lib.hid (by omega)
        have HFR8 := Lib.hid hfr8
        have HFU8 := Lib.hid hfu8
        have HLE8 := Lib.hid hle8
        have H9 := Lib.hid (P.opens w8 K8 p _ 1 ⟨by decide, by decide⟩ T8.out.disk HA8.out.good ⟨by have := HT8.out.2; omega, by have := HT8.out.1; omega⟩ (laid_keep HL.out T8.out.below))
        have ho := open_has HA8.out (Nat.le_refl _) (by unfold most; omega)
        rw [show ((1 : Nat) : Int) = 1 from rfl] at ho
        rw [ho] at H9
        clear hd8 ht8 s8 m8 hA8 hfr8 hfu8 hle8 hd8e ho H8 T7 PK7 F2 F3 F4 F5 F6
        go_wp2_with fail
        refine H9.out.mono ?_
        rintro e w9 h9
        obtain ⟨g9, A9, c9, ps9, rfl, hp9, hps9, hb9, hg9, hl9, hn9⟩ := op_some h9
        obtain ⟨s9, m9⟩ := T8.out.opened P hb9 hl9 hg9
        have T9 := Lib.hid s9
        have PK9 := Lib.hid (PK8.out.mv m9)
        have H10 := Lib.hid (same_any w9 ps6 ps9 A6 A9 _ _ c6 c9 PK9.out.mem hps9)
        rw [show decide (pays ps6 = pays ps9) = true by rw [decide_eq_true_eq, HP6.out, hp9]] at H10
        clear h9 hp9 hps9 hb9 hg9 hl9 hn9 s9 m9 H9 T8 PK8
        go_wp2_with fail
        refine H10.out.mono ?_
        rintro e w10 ⟨rfl, hb10⟩
        obtain ⟨s10, m10⟩ := T9.out.new P hb10 3
        have PK10 := PK9.out.mv m10
        have hal11 : Below w10.heap.size w10 (w10.alloc (.cells #[.int .u8 110, .int .u8 101, .int .u8 119] 5 (3, 4))) := (Below.refl _ w10).alloc (Nat.le_refl _) _
        obtain ⟨s11, m11⟩ := s10.new P hal11 3
        have T11 := Lib.hid s11
        have PK11 := Lib.hid (PK10.mv m11)
        obtain ⟨q1, q2⟩ := has_more HA8.out HFU8.out HLE8.out HFR8.out (by unfold most; omega) (p := [110, 101, 119]) (by simp)
        have t12 := tot_appendL [110, 101, 119] ⟨1, 1 + gh.length, false⟩ d8
        have H12 := Lib.hid (P.append _ _ p g9 d8 ⟨1, 1 + gh.length, false⟩ [110, 101, 119] (some ⟨w10.heap.size, 0, none⟩) 3 T11.out.disk T11.out.log T11.out.kg HA8.out.good ⟨by have := HT8.out.2; omega, by have := HT8.out.1; omega⟩ (by have := HT8.out.1; simp; omega) (by unfold most; simp; omega) (laid_keep HL.out T11.out.below)
          (marked w10 #[.int .u8 110, .int .u8 101, .int .u8 119] 5 (3, 4)) (by simp) (by unfold maxLen; omega) (fun o j e _ => by cases e; rw [kmark_new (Nat.le_refl _)]; decide))
        have HT12 : Hid (tot (appendL [110, 101, 119] ⟨1, 1 + gh.length, false⟩ d8).2.2 ≤ 3000000 ∧ (appendL [110, 101, 119] ⟨1, 1 + gh.length, false⟩ d8).2.2.files.length ≤ 201) := Lib.hid (by
          have h1 := t12.1
          have h2 := t12.2
          have h3 := HT8.out.1
          have h4 := HT8.out.2
          rw [show ([110, 101, 119] : List UInt8).length = 3 from rfl] at h1
          omega)
        generalize hD12 : appendL [110, 101, 119] ⟨1, 1 + gh.length, false⟩ d8 = D12 at *
        obtain ⟨e12, l12, d12⟩ := D12
        simp only at q1 q2 HT12 t12
        subst q1
        have HA12 := Lib.hid q2
        simp only [List.length_cons, List.length_nil] at H12
        clear hb10 s10 m10 PK10 hal11 s11 m11 H10 T9 PK9 q2 hD12 t12 HA8 HT8 HFR8 HFU8 HLE8
        go_wp2_with fail
        refine H12.out.mono ?_
        rintro e w12 h12
        obtain ⟨rfl, K12, s12, m12⟩ := T11.out.step P h12
        have T12 := Lib.hid s12
        have PK12 := Lib.hid (PK11.out.mv m12)
        have hgl2 : (gh ++ [[[110, 101, 119]]] : List (List (List UInt8))).length ≤ 103 := by rw [List.length_append]; simp; omega
        have H13 := Lib.hid (P.opens w12 K12 p _ 1 ⟨by decide, by decide⟩ T12.out.disk HA12.out.good ⟨by have := HT12.out.2; show d12.files.length ≤ _; omega, by have := HT12.out.1; show tot d12 ≤ _; omega⟩ (laid_keep HL.out T12.out.below))
        have ho := open_has HA12.out (Nat.le_refl _) (by unfold most; omega)
        rw [show ((1 : Nat) : Int) = 1 from rfl] at ho
        rw [ho] at H13
        clear h12 s12 m12 ho H12 T11 PK11
        go_wp2_with fail
        refine H13.out.mono ?_
        rintro e w13 h13
        obtain ⟨g13, A13, c13, ps13, rfl, hp13, hps13, hb13, hg13, hl13, hn13⟩ := op_some h13
        obtain ⟨s13, m13⟩ := T12.out.dk.opened P hb13 hl13 hg13
        have PK13 := Lib.hid (PK12.out.mv m13)
        rw [List.flatten_append, show ([[[110, 101, 119]]] : List (List (List UInt8))).flatten = [[110, 101, 119]] from rfl] at hp13
        have hl13' : ps13.length = ps6.length + 1 := by rw [← pays_len, hp13, List.length_append, HL6.out]; rfl
        have hc13 := hps13.le
        have hlt13 : ps6.length < ps13.length := by omega
        have HX13 : Hid ((ps13[ps6.length]).l = [110, 101, 119]) := Lib.hid (by
          have h : (pays ps13)[ps6.length]? = some [110, 101, 119] := by rw [hp13, HL6.out, List.getElem?_append_right (Nat.le_refl _)]; simp
          simpa [pays, hlt13] using h)
        have H14 := Lib.hid (same_any w13 (ps13.take ps6.length) ps6 A13 A6 _ _ c13 c6 (hps13.take ps6.length (by omega)) PK13.out.mem)
        rw [show decide (pays (ps13.take ps6.length) = pays ps6) = true by rw [decide_eq_true_eq, pays_take, hp13, HP6.out, HL6.out, List.take_left]] at H14
        have HPS13 := Lib.hid hps13
        have HB13 := Lib.hid s13.below
        have i1 : ((ps13.length : Nat) : Int) = (ps6.length : Int) + 1 := by omega
        have i2 : (ps6.length : Int) ≤ (c13 : Int) := by omega
        have i3 : (ps6.length : Int) < (ps13.length : Int) := by omega
        clear h13 hp13 hps13 hb13 hg13 hl13 hn13 s13 m13 H13 T12 PK12
        go_wp2_with fail
        refine H14.out.mono ?_
        rintro e w14 ⟨rfl, hb14⟩
        obtain ⟨b15, o15, rfl, hb15, hc15⟩ := HPS13.out.rd (by simp; omega)
        have k15 := (hb14.cell (p := ⟨b15, o15 + ps6.length, none⟩) hb15).trans (hc15 ps6.length (SV ps13[ps6.length]) (by rw [List.getElem?_map, List.getElem?_eq_getElem hlt13]; rfl))
        have g15 := HPS13.out.each _ (List.getElem_mem hlt13)
        have HE := HX13.out
        obtain ⟨x, hx⟩ : ∃ x, ps13[ps6.length] = x := ⟨_, rfl⟩
        rw [hx] at k15 g15 HE
        unfold SV at k15
        rw [HE] at k15
        have s15 := run_bytes (P := Tryd.prog) w14 23 9 5 Tryd.underlying23 Tryd.underlying5 Tryd.underlying9 x.A x.l x.c w13.heap.size (g15.1.below hb14)
        rw [HE] at s15
        simp only [List.length_cons, List.length_nil, Nat.zero_add, Nat.reduceAdd] at s15 k15
        have i0 : (0 : Int) ≤ (ps6.length : Int) := by omega
        have HBB := Lib.hid (HB13.out.trans (hb14.mono HB13.out.size))
        clear hb15 hc15 g15 HX13 HE H14 hx
        go_wp2
        go_ret
        exact ⟨rfl, HBB.out⟩
end Go.Proofs.YtapbjmbakpopcaaDoor.WlReplayW
