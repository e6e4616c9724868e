/- WalDrops' own walk, over the contracts of the program's log. -/
import Derived.Test.YtapbjmbakpopcaaDoorWlRun
import Derived.Test.YtapbjmbakpopcaaDoorWlDrop
import Derived.Test.YtapbjmbakpopcaaDoorPdReads
import Derived.WalkLawsBesides
namespace Go.Proofs.YtapbjmbakpopcaaDoor.WlDropsW
open Go Go.RowKit Words DkSpec PdLook RefDisk PdDisk PdOps PdRes PdList WlSpec WlName WlHeld WlLog WlMv Parts5 WlLaw WlTot WlSt WlAwake WlRun WlDrop

/-- The round: i payloads are in files of their own. -/
def DR (LogR : World → Nat → Nat → LSt → Prop) (w0 : World) (p g : Nat) (pl : List Part) (i : Nat) (wr : World) : Prop :=
  ∃ (K : Nat → Nat) (d : DSt), WSt LogR w0 wr K p g d ⟨1, 1 + i, false⟩ ∧ Only d 1 (pays (pl.take i)) ∧ tot d ≤ (all (pl.take i)).length + 14 * i ∧ ∀ q ∈ pl.take i, q.l.length ≤ 65536
def DRel (LogR : World → Nat → Nat → LSt → Prop) (w0 : World) (p g : Nat) (pl : List Part) (vn vi : Value) (wr : World) : Prop :=
  ∃ i : Nat, i ≤ pl.length ∧ i ≤ 50 ∧ vi = .int .i64 (i : Int) ∧ vn = .int .i64 (i : Int) ∧ Hid (DR LogR w0 p g pl i wr)

set_option maxHeartbeats 12800000 in
set_option maxRecDepth 100000 in
theorem drops_any {LogR : World → Nat → Nat → LSt → Prop} (P : Wal LogR) (w : World) (hL : WlTab.Lays w w.heap.size) (pl : List Part) (Ap : Option Addr) (cp : Nat) (hp : Ps w Ap pl.length cp pl) (below : Int) (h64 : In64 below) (hb : (all pl).length + pl.length ≤ 1048576) :
    Calls Tryd.prog 4 #[.slice Ap pl.length cp, .int .i64 below] w fun e w' => e = .returned (.bool true) ∧ Below w.heap.size w w' := by
  have HL := Lib.hid hL
  have HP := Lib.hid hp
  have H0 := Lib.hid (awake_any P w hL)
  have hpl : pl.length ≤ 1048576 := by omega
  clear hL hp
  go_enter Tryd.func4, Tryd.ntmps4
  go_wp2_with fail
  refine H0.out.mono ?_
  rintro e w0 ⟨rfl, hb0⟩
  have HB0 := Lib.hid hb0
  have H1 := Lib.hid (new_any w0 (kmark (fun _ => 0) w.heap.size 3) 1)
  clear hb0 H0
  go_wp2_with fail
  refine H1.out.mono ?_
  rintro e w1 ⟨p, K1, rfl, _, hd1, ht1⟩
  have S1 : Hid (DkSt w w1 K1 p fresh) := Lib.hid ⟨hd1, (Mv.new HB0.out 3).trans (Mv.of (ht1 1) (.inl rfl))⟩
  have H2 := Lib.hid (P.opens w1 K1 p fresh 1 ⟨by decide, by decide⟩ S1.out.disk fresh_run.good fresh_fit (laid_keep HL.out S1.out.below))
  rw [fresh_open] at H2
  clear hd1 ht1 H1
  go_wp2_with fail
  refine H2.out.mono ?_
  rintro e w2 h2
  obtain ⟨g, A2, c2, ps2, rfl, hp2, hps2, hb2, hg2, hl2, hn2⟩ := op_some h2
  obtain ⟨s2, _⟩ := S1.out.opened P hb2 hl2 hg2
  have T2 := Lib.hid s2
  clear h2 hp2 hps2 hb2 hg2 hl2 hn2 s2 H2 S1
  go_wp2
  go_loopw [9, 10] (fun vn vi wr => DRel LogR w p g pl vn vi wr) (fun _ vi _ => pl.length - (intOf vi).toNat)
  case atStart => exact ⟨0, Nat.zero_le _, by omega, rfl, rfl, Lib.hid ⟨_, fresh, T2.out, only_fresh, by simp [tot, fresh], fun q hq => (by cases hq)⟩⟩
  case round =>
    obtain ⟨i, hi, hi50, rfl, rfl, HDR⟩ := hrel
    clear T2
    by_cases hlt : i < pl.length ∧ i < 50
    · obtain ⟨hlt, h50⟩ := hlt
      obtain ⟨K, d, hst, honly, htot, hsm⟩ := HDR.out
      have hargs := arg_st hst HP.out
      obtain ⟨b1, o1, rfl, hb1, hc1⟩ := hargs.mem.rd (by simp; omega)
      have k1 := hc1 i (SV pl[i]) (by rw [List.getElem?_map, List.getElem?_eq_getElem hlt]; rfl)
      have g1 := hargs.mem.each _ (List.getElem_mem hlt)
      have q1 := hargs.kE _ (List.getElem_mem hlt)
      have hal := all_next hlt
      have hal3 : (all (pl.take (i + 1))).length ≤ (all pl).length := Parts5.take_len pl (i + 1)
      have HTK : Hid (pl.take (i + 1) = pl.take i ++ [pl[i]]) := Lib.hid (List.take_succ_eq_append_getElem hlt)
      obtain ⟨x, hx⟩ : ∃ x, pl[i] = x := ⟨_, rfl⟩
      rw [hx] at k1 g1 q1 hal HTK
      have hpn : (pays (pl.take i)).length = i := by rw [pays_len, List.length_take]; omega
      have HONLY := Lib.hid honly
      have HST := Lib.hid hst
      have HSM := Lib.hid hsm
      have HRDX := Lib.hid (show Rd wr wr.heap.size (some ⟨b1, o1, none⟩) (pl.map SV) from hargs.mem.rd)
      unfold SV at k1
      have j1 : (0 : Int) ≤ (i : Int) := by omega
      have j2 : (i : Int) < (pl.length : Int) := by omega
      have j3 : (i : Int) < 50 := by omega
      by_cases hlong : 65536 < x.l.length
      · have j4 : (65536 : Int) < (x.l.length : Int) := by omega
        have HBB := Lib.hid hst.below
        clear hargs hc1 hal hal3 q1 hst honly HDR g1 hx HRDX HST
        go_wp2
        go_ret
        exact ⟨rfl, HBB.out⟩
      · have j4 : ¬ (65536 : Int) < (x.l.length : Int) := by omega
        have H4 := Lib.hid (P.append wr K p g d ⟨1, 1 + i, false⟩ x.l x.A x.c hst.disk hst.log hst.kg honly.has.good ⟨by have := honly.count; rw [hpn] at this; omega, by omega⟩ (by omega) (by unfold most; show 1 + i ≤ _; omega) (laid_keep HL.out hst.below) g1.1 g1.2.1 g1.2.2 (fun o j e hx => by have := q1 o j e hx; unfold S2 at this; omega))
        have ht4 := tot_appendL x.l ⟨1, 1 + i, false⟩ d
        have ho4 := only_append honly (p := x.l) (by rw [hpn]; unfold most; omega) (by omega)
        rw [hpn] at ho4
        obtain ⟨D4, hD4⟩ : ∃ D4, appendL x.l ⟨1, 1 + i, false⟩ d = D4 := ⟨_, rfl⟩
        rw [hD4] at H4 ht4 ho4
        obtain ⟨e4, l4, d4⟩ := D4
        simp only at ht4 ho4
        obtain ⟨rfl, rfl, ho5⟩ := ho4
        have HO5 := Lib.hid ho5
        have HT5 : Hid (tot d4 ≤ (all (pl.take (i + 1))).length + 14 * (i + 1)) := Lib.hid (by omega)
        have HX : Hid (x.l.length ≤ 65536) := Lib.hid (by omega)
        clear hargs hc1 hal hal3 q1 hst honly HDR g1 hx ht4 ho5 hD4 htot hsm
        go_wp2_with fail
        refine H4.out.mono ?_
        rintro e w4 h4
        obtain ⟨rfl, K4, s4, m4⟩ := HST.out.step P h4
        have T4 := Lib.hid s4
        have H5 := Lib.hid (P.rotate w4 K4 p g d4 ⟨1, 1 + i, true⟩ T4.out.disk T4.out.log T4.out.kg (by unfold most; show 1 + i ≤ _; omega))
        rw [rotate_wrote (by unfold most; omega)] at H5
        clear h4 s4 m4 H4 HST k1
        go_wp2_with fail
        refine H5.out.mono ?_
        rintro e w5 h5
        obtain ⟨rfl, K5, s5, m5⟩ := T4.out.step P h5
        have T5 := Lib.hid s5
        have H6 := Lib.hid (P.number w5 p g _ T5.out.log (by unfold most; show 1 + i + 1 ≤ _; omega))
        rw [show (((⟨1, 1 + i + 1, false⟩ : LSt).n : Nat) : Int) = (i : Int) + 2 by show ((1 + i + 1 : Nat) : Int) = _; omega] at H6
        clear h5 s5 m5 H5 T4
        go_wp2_with fail
        refine H6.out.mono ?_
        rintro e w6 ⟨rfl, hb6⟩
        obtain ⟨s6, m6⟩ := T5.out.new P hb6 3
        have HDR6 : Hid (DR LogR w p g pl (i + 1) w6) := Lib.hid ⟨_, d4, s6, by rw [HTK.out]; unfold pays at *; rw [List.map_append]; exact HO5.out, HT5.out, fun q hq => by rw [HTK.out] at hq; exact (List.mem_append.1 hq).elim (HSM.out q) (fun h => by rw [List.mem_singleton.1 h]; exact HX.out)⟩
        clear hb6 s6 m6 H6 T5 HO5
        go_wp2
        go_roundw
        case rel => exact ⟨i + 1, by omega, by omega, by go_num, by go_num, HDR6⟩
        case measure => simp [intOf]; omega
    · obtain ⟨K, d, hst, honly, htot, hsm⟩ := HDR.out
      have hpn : (pays (pl.take i)).length = i := by rw [pays_len, List.length_take]; omega
      have hw3 : IntKind.i64.wrap ((i : Int) + 3) = (i : Int) + 3 := by rw [IntKind.wrap_i64]; omega
      have hu3 : IntKind.u64.wrap ((i : Int) + 3) = (i : Int) + 3 := by rw [IntKind.wrap_u64]; omega
      obtain ⟨k, hk⟩ : ∃ k : Nat, (IntKind.u64.wrap below).tmod ((i : Int) + 3) = (k : Int) := ⟨((IntKind.u64.wrap below).tmod ((i : Int) + 3)).toNat, by
        have h0 : 0 ≤ IntKind.u64.wrap below := by rw [IntKind.wrap_u64]; omega
        rw [Int.tmod_eq_emod_of_nonneg h0]
        have := Int.emod_nonneg (IntKind.u64.wrap below) (show (i : Int) + 3 ≠ 0 by omega)
        omega⟩
      have hk2 : k ≤ i + 2 := by
        have h0 : 0 ≤ IntKind.u64.wrap below := by rw [IntKind.wrap_u64]; omega
        rw [Int.tmod_eq_emod_of_nonneg h0] at hk
        have := Int.emod_lt_of_pos (IntKind.u64.wrap below) (show 0 < (i : Int) + 3 by omega)
        omega
      have hwk : IntKind.i64.wrap (k : Int) = (k : Int) := by rw [IntKind.wrap_i64]; omega
      have hnz : ((i : Int) + 3 == 0) = false := by simp; omega
      have hal3 : (all (pl.take i)).length ≤ (all pl).length := Parts5.take_len pl i
      have hcnt := honly.count
      rw [hpn] at hcnt
      have H4 := Lib.hid (P.drop wr K p g d ⟨1, 1 + i, false⟩ (k : Int) ⟨by omega, by omega⟩ hst.disk hst.log hst.kg honly.has.good ⟨by omega, by omega⟩ (by unfold most; show 1 + i ≤ _; omega) (laid_keep HL.out hst.below) (HL.out.out fun b hb => old_kind hst.mv hb))
      obtain ⟨t, d', hd1, hd2, hd3, hd4⟩ := only_drop (k : Int) (pays (pl.take i)) honly (n := 1 + i) (by omega) (by unfold most; omega)
      rw [hpn] at hd3 hd1
      rw [show (⟨1, 1 + i, false⟩ : LSt).n - (⟨1, 1 + i, false⟩ : LSt).first = i by show 1 + i - 1 = i; omega, hd3] at H4
      have HST := Lib.hid hst
      have HONLY := Lib.hid hd4
      have HSM := Lib.hid hsm
      have HK := Lib.hid hk2
      have HTD : Hid (tot d' ≤ 3000000) := Lib.hid (by have := tot_dropL i (k : Int) ⟨1, 1 + i, false⟩ d; rw [hd3] at this; simp only at this; omega)
      clear hst honly hd3 hd4 hsm HDR htot hal3 hcnt
      rcases Nat.lt_or_ge i pl.length with hlt2 | hlt2
      case' inl =>
        have j1 : (i : Int) < (pl.length : Int) := by omega
        have j2 : ¬ (i : Int) < 50 := by omega
        go_wp2_with fail
      case' inr =>
        have j1 : ¬ (i : Int) < (pl.length : Int) := by omega
        go_wp2_with fail
      all_goals
        refine H4.out.mono ?_
        rintro e w4 h4
        obtain ⟨rfl, K4, s4, m4⟩ := HST.out.step P h4
        have T4 := Lib.hid s4
        have hcnt := HONLY.out.count
        rw [List.length_drop, hpn] at hcnt
        have H5 := Lib.hid (list_any w4 K4 1 p d' T4.out.disk (by omega))
        unfold LsPost at H5
        rw [show list d' = (0, d'.files.map (·.name)) by unfold list; rw [HONLY.out.has.on]; rfl] at H5
        obtain ⟨ns, hns⟩ : ∃ ns, d'.files.map (·.name) = ns := ⟨_, rfl⟩
        rw [hns] at H5
        have hnl : ns.length = i - t := by rw [← hns, List.length_map]; exact hcnt
        have HNL := Lib.hid hnl
        clear h4 s4 m4 H4 HST hns hcnt hnl
        go_wp2_with fail
        refine H5.out.mono ?_
        rintro e w5 ⟨v5, rfl, hown5, hb5⟩
        obtain ⟨A5, c5, rfl, _, _, _⟩ := Put.own_slice hown5
        obtain ⟨s5, m5⟩ := T4.out.new P hb5 3
        have T5 := Lib.hid s5
        obtain ⟨f, hf⟩ : ∃ f : Nat, max k 1 = f := ⟨_, rfl⟩
        have hmx : max (k : Int) 1 = (f : Int) := by omega
        have hne : ((ns.length : Int) != max 0 ((i : Int) - (f : Int) + 1)) = false := by
          have := HNL.out
          have := HK.out
          rw [bne_eq_false_iff_eq]
          omega
        have hft : ((1 + t : Nat) : Int) = max ((1 : Nat) : Int) (min ((1 + i : Nat) : Int) (k : Int)) := hd2
        have HFT : Hid ((f = 1 + t ∧ f ≤ i + 1) ∨ (f = i + 2 ∧ t = i)) := Lib.hid (by have := HK.out; omega)
        obtain ⟨m, hm⟩ : ∃ m : Nat, max f (i + 1) = m := ⟨_, rfl⟩
        have hnm : ((m : Int) != max (f : Int) ((i : Int) + 1)) = false := by rw [bne_eq_false_iff_eq]; omega
        have ho : openL d' (f : Int) = (0, (pays (pl.take i)).drop t, some ⟨f, m, false⟩) := by
          have hlen : ((pays (pl.take i)).drop t).length = i - t := by rw [List.length_drop, hpn]
          rcases HFT.out with ⟨e1, e2⟩ | ⟨e1, e2⟩
          · have h := only_open HONLY.out (by omega) (by unfold most; rw [hlen]; omega)
            rw [hlen] at h
            rw [show f = 1 + t from e1, h, show m = 1 + t + (i - t) by omega]
          · have h := only_past HONLY.out (k := f) (by rw [hlen]; omega) (by omega) (by unfold most; omega)
            rw [h, List.drop_of_length_le (by rw [hpn, e2]; exact Nat.le_refl _), show m = f by omega]
        have hti : t ≤ i := hd1
        have hf9 : f ≤ 52 := by have := HK.out; omega
        have H6 := Lib.hid (P.opens w5 _ p _ (f : Int) ⟨by omega, by omega⟩ T5.out.disk HONLY.out.has.good ⟨by have := HONLY.out.count; rw [List.length_drop, hpn] at this; omega, by have := HTD.out; omega⟩ (laid_keep HL.out T5.out.below))
        rw [ho] at H6
        have HM : Hid (m ≤ 53) := Lib.hid (by omega)
        have HKF := Lib.hid hf
        clear hown5 hb5 s5 m5 H5 T4 hf hm ho hft hd2
        go_wp2_with fail
        refine H6.out.mono ?_
        rintro e w6 h6
        obtain ⟨g6, A6, c6, ps6, rfl, hp6, hps6, hb6, hg6, hl6, hn6⟩ := op_some h6
        obtain ⟨s6, m6⟩ := T5.out.dk.opened P hb6 hl6 hg6
        have T6 := Lib.hid s6
        have hl6' : ps6.length = i - t := by rw [← pays_len, hp6, List.length_drop, hpn]
        have hln : ((ps6.length : Int) != (ns.length : Int)) = false := by have := HNL.out; rw [bne_eq_false_iff_eq]; omega
        have H7 := Lib.hid (P.number w6 p g6 _ T6.out.log (by have := HM.out; unfold most; show m ≤ _; omega))
        rw [show (((⟨f, m, false⟩ : LSt).n : Nat) : Int) = (m : Int) from rfl] at H7
        have HP6 := Lib.hid hp6
        have HPS6 := Lib.hid hps6
        have HL6 := Lib.hid hl6'
        clear h6 hp6 hps6 hb6 hg6 hl6 hn6 s6 m6 hl6' H6 T5
        rcases Nat.eq_zero_or_pos ps6.length with hz | hz
        · have hz0 : ((ps6.length : Int) == 0) = true := by simp [hz]
          clear hz
          go_wp2_with fail
          refine H7.out.mono ?_
          rintro e w7 ⟨rfl, hb7⟩
          obtain ⟨s7, _⟩ := T6.out.new P hb7 3
          have HBB := Lib.hid s7.below
          clear hb7 s7 H7 T6
          go_wp2
          go_ret
          exact ⟨rfl, HBB.out⟩
        · have hz0 : ((ps6.length : Int) == 0) = false := beq_eq_false_iff_ne.2 (by omega)
          have hlt' : t < i := by have := HL6.out; omega
          have hft : (f : Int) - 1 = (t : Int) := by have := HFT.out; omega
          have hti2 : (t : Int) ≤ (i : Int) := by omega
          have hf0 : (0 : Int) ≤ (f : Int) - 1 := by omega
          have hcp : (i : Int) ≤ (cp : Int) := by have := HP.out.le; omega
          obtain ⟨b1, o1, e1, hb1, hc1⟩ := HP.out.rd (by simp; omega)
          have HE1 := Lib.hid e1
          subst e1
          clear hc1 hb1
          go_wp2_with fail
          refine H7.out.mono ?_
          rintro e w7 ⟨rfl, hb7⟩
          obtain ⟨s7, m7⟩ := T6.out.new P hb7 3
          have T7 := Lib.hid s7
          have HPS7 := Lib.hid (HPS6.out.below hb7)
          have hps7 : Ps w7 (some ⟨b1, o1 + t, none⟩) (i - t) (cp - t) ((pl.drop t).take (i - t)) := by
            have hpw := HP.out.below s7.below
            refine ⟨by rw [List.length_take, List.length_drop]; omega, by omega, by have := hpw.cap; omega, ?_, fun q hq => hpw.each q (List.mem_of_mem_drop (List.mem_of_mem_take hq))⟩
            rw [List.map_take, List.map_drop]
            intro _
            obtain ⟨b', o', e', hb', hc'⟩ := hpw.rd (by simp; omega)
            cases e'
            refine ⟨b1, o1 + t, rfl, hb', fun j u hu => ?_⟩
            rw [List.getElem?_take] at hu
            split at hu
            · rw [List.getElem?_drop] at hu
              have := hc' (t + j) u hu
              rwa [← Nat.add_assoc] at this
            · cases hu
          have H8 := Lib.hid (same_any w7 ps6 _ A6 _ _ _ c6 _ HPS7.out hps7)
          rw [show decide (pays ps6 = pays ((pl.drop t).take (i - t))) = true by
            rw [decide_eq_true_eq, HP6.out]
            unfold pays
            rw [← List.map_drop, List.drop_take]] at H8
          clear hb7 s7 m7 H7 T6 hz hps7
          go_wp2_with fail
          refine H8.out.mono ?_
          rintro e w8 ⟨rfl, hb8⟩
          obtain ⟨s8, _⟩ := T7.out.new P hb8 3
          have HBB := Lib.hid s8.below
          clear hb8 s8 H8 T7
          go_wp2
          go_ret
          exact ⟨rfl, HBB.out⟩
end Go.Proofs.YtapbjmbakpopcaaDoor.WlDropsW
