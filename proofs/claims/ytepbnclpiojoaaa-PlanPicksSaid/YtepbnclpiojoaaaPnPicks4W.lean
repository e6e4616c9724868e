/- PlanPicks' walk where four are merged, and the whole, over the contracts of the program's plan. Conditions: the segments lie in memory, at most 2^47 bytes of them. -/
import Derived.Test.YtepbnclpiojoaaaPnPicks0W
namespace Go.Proofs.Ytepbnclpiojoaaa.PnPicks4W
open Go Go.RowKit Words AppN PnSpec PnStep SgMem PnRef PnGone PnMerge PnSame PnCnt PnLaw PnAwake PnPicksP PnPicks0W

theorem own_addr4 {w : World} {base n : Nat} {e : TypeId} {v : Value} {xs : List Value} (h : w.ownsRow base e 1 v n xs) (hn : 0 < n) :
    ∃ b c, v = .slice (some ⟨b, 0, none⟩) n c ∧ base ≤ b ∧ b < w.heap.size ∧ ∀ j u, xs[j]? = some u → w.cell? ((⟨b, 0, none⟩ : Addr).add j) = some u := by
  obtain ⟨g, cap, hv, hb, hlt⟩ := h.form hn
  subst hv
  exact ⟨g, cap, rfl, hb, hlt, fun j u hu => h.cells (g := g) rfl j u hu⟩
set_option maxHeartbeats 12800000 in
set_option maxRecDepth 100000 in
theorem picks_four (pn : Pns) (w : World) (s : Sl) (l : List Sg) (hs : Sgs w s l) (hc : ∀ x ∈ l, In64 x.count) (hl : l.length * 32 ≤ 140737488355328) {t0 i0 i1 i2 i3 : Nat} (ht0 : t0 < 16) (hM : merge (l.map Sg.count) = [i0, i1, i2, i3]) (hP : picks (l.map Sg.count) t0 = [i0, i1, i2, i3]) (hF : fits (l.map Sg.count) t0 = true) (hlow : ∀ u, u < t0 → fits (l.map Sg.count) u = false) (hi0 : i0 < l.length) :
    Calls Try.prog 6 #[slV s] w fun e w' => e = .returned (.bool true) ∧ Below w.heap.size w w' := by
  have HS := Lib.hid hs
  have HRD := Lib.hid hs.rd
  have hkn := hs.len
  have hkc := hs.le
  have hkm := hs.cap
  obtain ⟨A, kk, c⟩ := s
  simp only at hkn hkc hkm HRD
  unfold maxLen at hkm
  subst hkn
  clear hs
  unfold slV
  go_enter Try.func6, Try.ntmps6
  go_wp2_with fail
  refine (awake_any pn _).mono ?_
  rintro _ w1 ⟨rfl, hb1⟩
  have HB1 := Lib.hid hb1
  clear hb1
  go_wp2_with fail
  refine (pn.merge _ (A, _, c) l (HS.out.below HB1.out) hc hl).mono ?_
  rintro _ w2 ⟨⟨A2, n2, c2⟩, rfl, hs2, hb2⟩
  have HB2 : Hid (Below w.heap.size w w2) := Lib.hid (HB1.out.trans (hb2.mono HB1.out.size))
  have hn2 := hs2.len
  have hc2 := hs2.le
  have hm2 := hs2.cap
  have HMR := Lib.hid hs2.rd
  simp only at hn2 hc2 hm2
  unfold maxLen at hm2
  subst hn2
  clear hb2 hs2 HB1
  unfold slV
  obtain ⟨i9, hi, hz0, hz1, hz2⟩ := info_int
  have HML : Hid ((l.map Sg.count).length = l.length) := Lib.hid (by simp)
  have HPL := Lib.hid (picksTo_len (l.map Sg.count))
  have HPS := Lib.hid (picksTo_succ (l.map Sg.count))
  have HCT := Lib.hid (fun t => fits_word (l.map Sg.count) t)
  have HX : Hid (∀ u, u < t0 → fits (l.map Sg.count) u = false) := Lib.hid hlow
  have HP := Lib.hid hP
  have HF := Lib.hid hF
  have HRD := Lib.hid ((HS.out.below HB2.out).rd)
  simp only at HRD
  rw [hM] at HMR
  obtain ⟨g2, o2, rfl, hg2, hm⟩ := HMR.out (by simp)
  have m0 := hm 0 _ rfl
  have m1 := hm 1 _ rfl
  have m2 := hm 2 _ rfl
  have m3 := hm 3 _ rfl
  have hlm : (merge (l.map Sg.count)).length = 4 := by rw [hM]; rfl
  rw [hlm]
  have HTI : Hid (tierI (l[i0]).count = t0) := Lib.hid (by
    have h := (picksTo_mem (cs := l.map Sg.count) (t := t0) (k := (l.map Sg.count).length) (i := i0) (by
      change i0 ∈ picks (l.map Sg.count) t0
      rw [hP]; simp)).2
    simpa [List.getD_eq_getElem?_getD, hi0] using h)
  obtain ⟨g0, f0, rfl, hg0, hc0⟩ := HRD.out (by rw [flatS_len]; omega)
  obtain ⟨p0, p1, p2, p3⟩ := cellsS hc0 hi0
  have HC0 := fun w => pn.tier w (l[i0]).count (hc _ (List.getElem_mem hi0))
  rw [HTI.out] at HC0
  have HM0 : Hid (w2.cell? ⟨g2, o2, none⟩ = some (.int .i64 (i0 : Int)) ∧ w2.cell? ⟨g2, o2 + 1, none⟩ = some (.int .i64 (i1 : Int)) ∧ w2.cell? ⟨g2, o2 + 2, none⟩ = some (.int .i64 (i2 : Int)) ∧ w2.cell? ⟨g2, o2 + 3, none⟩ = some (.int .i64 (i3 : Int))) := Lib.hid ⟨m0, m1, m2, m3⟩
  clear hlm hM hc2 hP hF hlow m1 m2 m3 p0 p2 p3 hc0 hm HMR HTI
  simp only [Nat.add_zero, IV] at m0
  generalize (l[i0]).count = x0 at *
  go_wp2_with fail
  refine (HC0 _).mono ?_
  rintro _ w3 ⟨rfl, hb3⟩
  have HM : Hid (w3.cell? ⟨g2, o2, none⟩ = some (.int .i64 (i0 : Int)) ∧ w3.cell? ⟨g2, o2 + 1, none⟩ = some (.int .i64 (i1 : Int)) ∧ w3.cell? ⟨g2, o2 + 2, none⟩ = some (.int .i64 (i2 : Int)) ∧ w3.cell? ⟨g2, o2 + 3, none⟩ = some (.int .i64 (i3 : Int))) :=
    Lib.hid ⟨cell_up hb3 (by exact hg2) HM0.out.1, cell_up hb3 (by exact hg2) HM0.out.2.1, cell_up hb3 (by exact hg2) HM0.out.2.2.1, cell_up hb3 (by exact hg2) HM0.out.2.2.2⟩
  have hg3 : g2 < w3.heap.size := by have := hb3.size; omega
  have HRD3 := Lib.hid ((HRD.out.below hb3).more hb3.size)
  have HB3 : Hid (Below w.heap.size w w3) := Lib.hid (HB2.out.trans (hb3.mono HB2.out.size))
  clear hb3 HB2 HM0 m0 p1 HC0 HRD hg2 hg0
  go_wp2
  go_loopw [5] (fun v wr => ORel w3 v wr) (fun v _ => 40 - (intOf v).toNat)
  case atStart => exact ⟨0, by omega, rfl, Lib.hid (Below.refl _ _)⟩
  case round =>
    obtain ⟨t, ht, rfl, HBr⟩ := hrel
    by_cases h40 : t < 40
    case neg =>
      have hd : decide ((t : Int) < 40) = false := decide_eq_false (by omega)
      go_wp2
      go_ret
      exact ⟨rfl, HB3.out.trans (HBr.out.mono HB3.out.size)⟩
    have hd : decide ((t : Int) < 40) = true := decide_eq_true (by omega)
    go_wp2
    go_loopw [6, 7, 8] (fun v6 v7 v8 wr2 => IRel w3 (l.map Sg.count) t v6 v7 v8 wr2) (fun _ _ v _ => l.length - (intOf v).toNat)
    case atStart => exact ⟨0, Nat.zero_le _, rfl, rfl, Lib.hid (World.ownsRow_nil _ _ _ _), HBr⟩
    case round =>
      obtain ⟨k, hk, rfl, rfl, HOW, HB2⟩ := hrel
      obtain ⟨A5, c5, rfl⟩ := own_slice HOW.out
      rw [HML.out] at hk
      have hpl := HPL.out t k
      have hz1b : 0 ≤ w64 (sumOf (l.map Sg.count) (picksTo (l.map Sg.count) t k)) := by unfold w64; omega
      have hz2b : w64 (sumOf (l.map Sg.count) (picksTo (l.map Sg.count) t k)) < 18446744073709551616 := by unfold w64; omega
      by_cases hx : k < l.length ∧ (picksTo (l.map Sg.count) t k).length < 4
      case neg =>
        have hfin : picks (l.map Sg.count) t = picksTo (l.map Sg.count) t k := by
          unfold picks
          by_cases hkn : k < l.length
          · exact picks_full (by omega) _ (by rw [HML.out]; omega)
          · rw [show (l.map Sg.count).length = k by have := HML.out; omega]
        have HFW := Lib.hid (HCT.out t)
        rw [hfin] at HFW
        change Hid (fits (l.map Sg.count) t = ((picksTo (l.map Sg.count) t k).length == 4 && (decide (w64 (sumOf (l.map Sg.count) (picksTo (l.map Sg.count) t k)) ≤ 65536) && decide (t < 16)))) at HFW
        have HEND : Hid (∀ n : Nat, ORel w3 (.int .i64 ((t : Int) + 1)) (wr.drewN n) ∧ 40 - (intOf (.int .i64 ((t : Int) + 1))).toNat < 40 - (intOf (.int .i64 (t : Int))).toNat) := Lib.hid fun n =>
          ⟨⟨t + 1, by omega, by go_num, Lib.hid (below_drewN HB2.out n)⟩, by simp [intOf]; omega⟩
        by_cases heq : t = t0
        · subst heq
          have hL : picksTo (l.map Sg.count) t k = [i0, i1, i2, i3] := by rw [← hfin]; exact HP.out
          rw [HF.out, hL] at HFW
          rw [hL] at HOW hpl hz1b hz2b hx ⊢
          obtain ⟨g5, c5', e5, hb5, hl5, hcell⟩ := own_addr4 HOW.out (by simp)
          cases e5
          have q0 := hcell 0 _ rfl
          have q1 := hcell 1 _ rfl
          have q2 := hcell 2 _ rfl
          have q3 := hcell 3 _ rfl
          have m0 := cell_up HB2.out (p := ⟨g2, o2, none⟩) hg3 HM.out.1
          have m1 := cell_up HB2.out (p := ⟨g2, o2 + 1, none⟩) hg3 HM.out.2.1
          have m2 := cell_up HB2.out (p := ⟨g2, o2 + 2, none⟩) hg3 HM.out.2.2.1
          have m3 := cell_up HB2.out (p := ⟨g2, o2 + 3, none⟩) hg3 HM.out.2.2.2
          have j5 : decide (w64 (sumOf (l.map Sg.count) [i0, i1, i2, i3]) ≤ 65536) = true := by
            have h := HFW.out.symm
            simp only [Bool.and_eq_true] at h
            exact h.2.1
          have j6 : decide ((t : Int) < 16) = true := decide_eq_true (by omega)
          have j9 : ((t : Int) == (t : Int)) = true := by simp
          simp only [add_off, Nat.zero_add, IV] at q0 q1 q2 q3
          clear hfin HPS HRD3 HOW hcell hL HFW HP HF hx
          generalize w64 (sumOf (l.map Sg.count) [i0, i1, i2, i3]) = z at *
          by_cases hkn : k < l.length
          · have d1 : decide ((k : Int) < (l.length : Int)) = true := decide_eq_true (by omega)
            go_wp2
            go_quiet (fail)
            go_wp2
            exact HEND.out _
          · have d1 : decide ((k : Int) < (l.length : Int)) = false := decide_eq_false (by omega)
            go_wp2
            go_quiet (fail)
            go_wp2
            exact HEND.out _
        have j9 : ((t : Int) == (t0 : Int)) = false := by simp; omega
        have HZ : Hid (t < t0 → fits (l.map Sg.count) t = false) := Lib.hid (HX.out t)
        generalize fits (l.map Sg.count) t = ff at *
        generalize w64 (sumOf (l.map Sg.count) (picksTo (l.map Sg.count) t k)) = z at *
        generalize picksTo (l.map Sg.count) t k = L at *
        clear hfin HPS HRD3
        by_cases hkn : k < l.length
        case' pos =>
          have d1 : decide ((k : Int) < (l.length : Int)) = true := decide_eq_true (by omega)
          have d2 : decide ((L.length : Int) < 4) = false := decide_eq_false (by omega)
          have hL4 : L.length = 4 := by omega
        case' neg =>
          have d1 : decide ((k : Int) < (l.length : Int)) = false := decide_eq_false (by omega)
        all_goals
          clear hx
          by_cases hlt0 : t < t0
          case' pos =>
            have j8 : decide ((t : Int) < (t0 : Int)) = true := decide_eq_true (by omega)
          case' neg =>
            have j8 : decide ((t : Int) < (t0 : Int)) = false := decide_eq_false (by omega)
          all_goals
            by_cases h4 : L.length = 4
            case neg =>
              first
                | (exfalso; omega)
                | (have j4 : ((L.length : Int) == 4) = false := by simp; omega
                   go_wp2
                   go_quiet (fail)
                   go_wp2
                   exact HEND.out _)
            by_cases hz : z ≤ 65536
            case neg =>
              have j5 : decide (z ≤ 65536) = false := decide_eq_false hz
              go_wp2
              go_quiet (fail)
              go_wp2
              exact HEND.out _
            have j5 : decide (z ≤ 65536) = true := decide_eq_true hz
            by_cases ht16 : t < 16
            case neg =>
              have j6 : decide ((t : Int) < 16) = false := decide_eq_false (by omega)
              go_wp2
              go_quiet (fail)
              go_wp2
              exact HEND.out _
            have j6 : decide ((t : Int) < 16) = true := decide_eq_true (by omega)
            first
              | (exfalso
                 have h1 := HZ.out hlt0
                 have h2 := HFW.out
                 rw [h1, h4, j5, decide_eq_true ht16] at h2
                 simp at h2
                 done)
              | (go_wp2
                 go_quiet (fail)
                 go_wp2
                 exact HEND.out _)
      obtain ⟨hlt, hl4⟩ := hx
      have d1 : decide ((k : Int) < (l.length : Int)) = true := decide_eq_true (by omega)
      have d2 : decide (((picksTo (l.map Sg.count) t k).length : Int) < 4) = true := decide_eq_true (by omega)
      obtain ⟨g, off, eA, hg, hcs⟩ := HRD3.out (by rw [flatS_len]; omega)
      obtain ⟨rfl, rfl⟩ : g = g0 ∧ off = f0 := by cases eA; exact ⟨rfl, rfl⟩
      clear eA
      obtain ⟨p0, p1, p2, p3⟩ := cellsS hcs hlt
      have HPc := Lib.hid p1
      have k1 := cell_up HB2.out (p := ⟨g, off + k * 4 + 1, none⟩) hg p1
      have hx64 := hc _ (List.getElem_mem hlt)
      have hD : (l.map Sg.count).getD k 0 = (l[k]).count := by simp [List.getD_eq_getElem?_getD, hlt]
      have HS2 := Lib.hid (HPS.out t k)
      have HSN := Lib.hid (sumOf_snoc (l.map Sg.count) (picksTo (l.map Sg.count) t k) k)
      rw [hD] at HS2 HSN
      clear hcs p0 p1 p2 p3 HPS HRD3 hD
      generalize (l[k]).count = x at *
      have hW : w64 (w64 (sumOf (l.map Sg.count) (picksTo (l.map Sg.count) t k)) + max x 0) = w64 (sumOf (l.map Sg.count) (picksTo (l.map Sg.count) t k ++ [k])) := by
        rw [HSN.out]; unfold w64; omega
      generalize hG : picksTo (l.map Sg.count) t k = G at *
      have HC := fun w => pn.tier w x hx64
      generalize hTx : tierI x = T at *
      by_cases e : T = t
      case neg =>
        have HX2 : Hid (picksTo (l.map Sg.count) t (k + 1) = G) := Lib.hid (by rw [HS2.out, if_neg (by omega)])
        have j : ((T : Int) == (t : Int)) = false := by simp; omega
        clear HS2 HSN hTx hx64 hW
        generalize hz : w64 (sumOf (l.map Sg.count) G) = z at *
        go_wp2_with fail
        refine (HC _).mono ?_
        rintro _ w9 ⟨rfl, hb⟩
        have HOW2 := Lib.hid (own_keepT HOW.out hb)
        have HB3 : Hid (Below w3.heap.size w3 w9) := Lib.hid (HB2.out.trans (hb.mono HB2.out.size))
        clear hb HOW HB2 k1 HC
        go_wp2
        exact ⟨⟨k + 1, by rw [HML.out]; exact hlt, by rw [HX2.out, hz], by go_num, by rw [HX2.out]; exact HOW2, HB3⟩, by simp [intOf]; omega⟩
      have HX2 : Hid (picksTo (l.map Sg.count) t (k + 1) = G ++ [k]) := Lib.hid (by rw [HS2.out, if_pos ⟨hl4, e⟩])
      have j : ((T : Int) == (t : Int)) = true := by simp; omega
      have hx1 := hx64.1
      have hx2 := hx64.2
      have HWW : Hid (w64 (w64 (sumOf (l.map Sg.count) G) + max x 0) = w64 (sumOf (l.map Sg.count) (G ++ [k]))) := Lib.hid hW
      clear HS2 HSN hTx hx64 hW
      generalize w64 (sumOf (l.map Sg.count) G) = z at *
      have u1 : IntKind.u64.wrap (max x 0) = max x 0 := by rw [IntKind.wrap_u64]; omega
      have u2' : IntKind.u64.wrap (z + max x 0) = w64 (z + max x 0) := by rw [IntKind.wrap_u64]; rfl
      go_wp2_with fail
      refine (HC _).mono ?_
      rintro _ w9 ⟨rfl, hb⟩
      have HOW2 := Lib.hid (own_keepT HOW.out hb)
      have HB3 : Hid (Below w3.heap.size w3 w9) := Lib.hid (HB2.out.trans (hb.mono HB2.out.size))
      clear hb HOW HB2 k1 HC
      have HOA : Hid ((w9.alloc (.cells #[.int .i64 (k : Int)] 3)).ownsRow w3.heap.size 3 1 (.slice A5 G.length c5) G.length (G.map IV)) := Lib.hid (HOW2.out.alloc _)
      have HBA : Hid (Below w3.heap.size w3 (w9.alloc (.cells #[.int .i64 (k : Int)] 3))) := Lib.hid (HB3.out.trans (((Below.refl _ w9).alloc (Nat.le_refl _) _).mono HB3.out.size))
      clear HOW2 HB3
      go_wp2_with (at_builtin; refine wpList_append_own _ rfl _ _ 26 rfl w3.heap.size 3 i9 (.int .i64 0) 1 8 Try.underlying26 hi hz0 hz1 hz2 rfl (by decide) (.slice A5 G.length c5) _ _ (by rfl) HOA.out ⟨w9.heap.size, 0, none⟩ 1 1 ([k].map IV) (by rfl) (by simp) (cellNew _ _ _) (iv_ones _) ?c3 ?c4 HBA.out.size ?_)
      case c3 => unfold maxLen; omega
      case c4 => omega
      intro v2 w12 hown2 hg2 _
      have hb2 : Below w3.heap.size w3 w12 := HBA.out.grown hg2 HBA.out.size (own_lt1 HOA.out)
      have HO2 : Hid (w12.ownsRow w3.heap.size 3 1 v2 (G ++ [k]).length ((G ++ [k]).map IV)) := Lib.hid (by
        rw [List.map_append, List.length_append]
        exact hown2)
      have k3 := cell_up hb2 (p := ⟨g, off + k * 4 + 1, none⟩) hg HPc.out
      have HB4 := Lib.hid hb2
      clear hown2 hg2 hb2 HOA HBA HPc
      go_wp2
      exact ⟨⟨k + 1, by rw [HML.out]; exact hlt, by rw [HX2.out, HWW.out], by go_num, by rw [HX2.out]; exact HO2, HB4⟩, by simp [intOf]; omega⟩

theorem picks_walk (pn : Pns) (w : World) (s : Sl) (l : List Sg) (hs : Sgs w s l) (hc : ∀ x ∈ l, In64 x.count) (hl : l.length * 32 ≤ 140737488355328) :
    Calls Try.prog 6 #[slV s] w fun e w' => e = .returned (.bool true) ∧ Below w.heap.size w w' := by
  rcases merge_cases (l.map Sg.count) with h | ⟨t, i0, i1, i2, i3, _, h1, h2, h3, h4, h5, h6, h7, h8⟩
  · exact picks_none pn w s l hs hc hl h
  · exact picks_four pn w s l hs hc hl (fits_low h3) h1 h2 h3 h4 (by rw [List.length_map] at h8; omega)
end Go.Proofs.Ytepbnclpiojoaaa.PnPicks4W
