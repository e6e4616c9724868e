/- PlanPicks' walk where nothing is merged, over the contracts of the program's plan. Conditions: the segments lie in memory, at most 2^47 bytes of them. -/
import Derived.Test.YtepbnclpiojoaaaPnAwake
import Derived.Test.YtepbnclpiojoaaaPnPicksP
namespace Go.Proofs.Ytepbnclpiojoaaa.PnPicks0W
open Go Go.RowKit Words AppN PnSpec PnStep SgMem PnRef PnGone PnMerge PnSame PnCnt PnLaw PnAwake PnPicksP

def w64 (z : Int) : Int := z % 18446744073709551616
def ORel (W : World) (v : Value) (wr : World) : Prop := ∃ t : Nat, t ≤ 40 ∧ v = .int .i64 (t : Int) ∧ Hid (Below W.heap.size W wr)
def IRel (W : World) (cs : List Int) (t : Nat) (v6 v7 v8 : Value) (wr : World) : Prop :=
  ∃ k : Nat, k ≤ cs.length ∧ v7 = .int .u64 (w64 (sumOf cs (picksTo cs t k))) ∧ v8 = .int .i64 (k : Int) ∧
    Hid (wr.ownsRow W.heap.size 3 1 v6 (picksTo cs t k).length ((picksTo cs t k).map IV)) ∧ Hid (Below W.heap.size W wr)
set_option maxHeartbeats 12800000 in
set_option maxRecDepth 100000 in
theorem picks_none (pn : Pns) (w : World) (s : Sl) (l : List Sg) (hs : Sgs w s l) (hc : ∀ x ∈ l, In64 x.count) (hl : l.length * 32 ≤ 140737488355328) (hM : merge (l.map Sg.count) = []) :
    Calls Try.prog 6 #[slV s] w fun e w' => e = .returned (.bool true) ∧ Below w.heap.size w w' := by
  have HS := Lib.hid hs
  have HRD := Lib.hid hs.rd
  have hkn := hs.len
  have hkc := hs.le
  have hkm := hs.cap
  obtain ⟨A, kk, c⟩ := s
  simp only at hkn hkc hkm HRD
  unfold maxLen at hkm
  subst hkn
  clear hs
  unfold slV
  go_enter Try.func6, Try.ntmps6
  go_wp2_with fail
  refine (awake_any pn _).mono ?_
  rintro _ w1 ⟨rfl, hb1⟩
  have HB1 := Lib.hid hb1
  clear hb1
  go_wp2_with fail
  refine (pn.merge _ (A, _, c) l (HS.out.below HB1.out) hc hl).mono ?_
  rintro _ w2 ⟨⟨A2, n2, c2⟩, rfl, hs2, hb2⟩
  have HB2 : Hid (Below w.heap.size w w2) := Lib.hid (HB1.out.trans (hb2.mono HB1.out.size))
  have hn2 := hs2.len
  have hc2 := hs2.le
  have hm2 := hs2.cap
  have HMR := Lib.hid hs2.rd
  simp only at hn2 hc2 hm2
  unfold maxLen at hm2
  subst hn2
  clear hb2 hs2 HB1
  unfold slV
  obtain ⟨i9, hi, hz0, hz1, hz2⟩ := info_int
  have HML : Hid ((l.map Sg.count).length = l.length) := Lib.hid (by simp)
  have HPL := Lib.hid (picksTo_len (l.map Sg.count))
  have HPS := Lib.hid (picksTo_succ (l.map Sg.count))
  have HCT := Lib.hid (fun t => fits_word (l.map Sg.count) t)
  rw [hM] at HMR
  have HX : Hid (∀ t, t < 40 → fits (l.map Sg.count) t = false) := Lib.hid fun t ht => by
    by_cases h : t < 32
    · exact fits_before hM t h
    · exact fits_past (by simpa using hc) (by omega)
  have hlm : (merge (l.map Sg.count)).length = 0 := by rw [hM]; rfl
  rw [hlm]
  clear hlm hM hc2
  go_wp2
  go_loopw [5] (fun v wr => ORel w v wr) (fun v _ => 40 - (intOf v).toNat)
  case atStart => exact ⟨0, by omega, rfl, HB2⟩
  case round =>
    obtain ⟨t, ht, rfl, HBr⟩ := hrel
    by_cases h40 : t < 40
    case neg =>
      have hd : decide ((t : Int) < 40) = false := decide_eq_false (by omega)
      go_wp2
      go_ret
      exact ⟨rfl, HBr.out⟩
    have hd : decide ((t : Int) < 40) = true := decide_eq_true (by omega)
    go_wp2
    go_loopw [6, 7, 8] (fun v6 v7 v8 wr2 => IRel w (l.map Sg.count) t v6 v7 v8 wr2) (fun _ _ v _ => l.length - (intOf v).toNat)
    case atStart => exact ⟨0, Nat.zero_le _, rfl, rfl, Lib.hid (World.ownsRow_nil _ _ _ _), HBr⟩
    case round =>
      obtain ⟨k, hk, rfl, rfl, HOW, HB2⟩ := hrel
      obtain ⟨A5, c5, rfl⟩ := own_slice HOW.out
      rw [HML.out] at hk
      have hpl := HPL.out t k
      have hz1b : 0 ≤ w64 (sumOf (l.map Sg.count) (picksTo (l.map Sg.count) t k)) := by unfold w64; omega
      have hz2b : w64 (sumOf (l.map Sg.count) (picksTo (l.map Sg.count) t k)) < 18446744073709551616 := by unfold w64; omega
      by_cases hx : k < l.length ∧ (picksTo (l.map Sg.count) t k).length < 4
      case neg =>
        have hfin : picks (l.map Sg.count) t = picksTo (l.map Sg.count) t k := by
          unfold picks
          by_cases hkn : k < l.length
          · exact picks_full (by omega) _ (by rw [HML.out]; omega)
          · rw [show (l.map Sg.count).length = k by have := HML.out; omega]
        have HFW := Lib.hid (HCT.out t)
        rw [hfin, HX.out t h40] at HFW
        change Hid (false = ((picksTo (l.map Sg.count) t k).length == 4 && (decide (w64 (sumOf (l.map Sg.count) (picksTo (l.map Sg.count) t k)) ≤ 65536) && decide (t < 16)))) at HFW
        have HEND : Hid (∀ n : Nat, ORel w (.int .i64 ((t : Int) + 1)) (wr.drewN n) ∧ 40 - (intOf (.int .i64 ((t : Int) + 1))).toNat < 40 - (intOf (.int .i64 (t : Int))).toNat) := Lib.hid fun n =>
          ⟨⟨t + 1, by omega, by go_num, Lib.hid (below_drewN HB2.out n)⟩, by simp [intOf]; omega⟩
        have j8 : decide ((t : Int) < 99) = true := decide_eq_true (by omega)
        have j9 : ((t : Int) == 99) = false := by simp; omega
        generalize w64 (sumOf (l.map Sg.count) (picksTo (l.map Sg.count) t k)) = z at *
        generalize picksTo (l.map Sg.count) t k = L at *
        clear hfin HPS HRD
        by_cases hkn : k < l.length
        case' pos =>
          have d1 : decide ((k : Int) < (l.length : Int)) = true := decide_eq_true (by omega)
          have d2 : decide ((L.length : Int) < 4) = false := decide_eq_false (by omega)
          have hL4 : L.length = 4 := by omega
        case' neg =>
          have d1 : decide ((k : Int) < (l.length : Int)) = false := decide_eq_false (by omega)
        all_goals
          clear hx
          by_cases h4 : L.length = 4
          case neg =>
            first
              | (exfalso; omega)
              | (have j4 : ((L.length : Int) == 4) = false := by simp; omega
                 go_wp2
                 go_quiet (fail)
                 go_wp2
                 exact HEND.out _)
          by_cases hz : z ≤ 65536
          · have j5 : decide (z ≤ 65536) = true := decide_eq_true hz
            have ht16 : ¬ t < 16 := by
              intro h
              have := HFW.out
              rw [h4, j5, decide_eq_true h] at this
              simp at this
            have j6 : decide ((t : Int) < 16) = false := decide_eq_false (by omega)
            go_wp2
            go_quiet (fail)
            go_wp2
            exact HEND.out _
          · have j5 : decide (z ≤ 65536) = false := decide_eq_false hz
            go_wp2
            go_quiet (fail)
            go_wp2
            exact HEND.out _
      obtain ⟨hlt, hl4⟩ := hx
      have d1 : decide ((k : Int) < (l.length : Int)) = true := decide_eq_true (by omega)
      have d2 : decide (((picksTo (l.map Sg.count) t k).length : Int) < 4) = true := decide_eq_true (by omega)
      obtain ⟨g, off, rfl, hg, hcs⟩ := HRD.out (by rw [flatS_len]; omega)
      obtain ⟨p0, p1, p2, p3⟩ := cellsS hcs hlt
      have HP := Lib.hid p1
      have k1 := cell_up HB2.out (p := ⟨g, off + k * 4 + 1, none⟩) hg p1
      have hx64 := hc _ (List.getElem_mem hlt)
      have hD : (l.map Sg.count).getD k 0 = (l[k]).count := by simp [List.getD_eq_getElem?_getD, hlt]
      have HS2 := Lib.hid (HPS.out t k)
      have HSN := Lib.hid (sumOf_snoc (l.map Sg.count) (picksTo (l.map Sg.count) t k) k)
      rw [hD] at HS2 HSN
      clear hcs p0 p1 p2 p3 HPS HRD hD
      generalize (l[k]).count = x at *
      have hW : w64 (w64 (sumOf (l.map Sg.count) (picksTo (l.map Sg.count) t k)) + max x 0) = w64 (sumOf (l.map Sg.count) (picksTo (l.map Sg.count) t k ++ [k])) := by
        rw [HSN.out]; unfold w64; omega
      generalize hG : picksTo (l.map Sg.count) t k = G at *
      have HC := fun w => pn.tier w x hx64
      generalize hTx : tierI x = T at *
      by_cases e : T = t
      case neg =>
        have HX2 : Hid (picksTo (l.map Sg.count) t (k + 1) = G) := Lib.hid (by rw [HS2.out, if_neg (by omega)])
        have j : ((T : Int) == (t : Int)) = false := by simp; omega
        clear HS2 HSN hTx hx64 hW
        generalize hz : w64 (sumOf (l.map Sg.count) G) = z at *
        go_wp2_with fail
        refine (HC _).mono ?_
        rintro _ w9 ⟨rfl, hb⟩
        have HOW2 := Lib.hid (own_keepT HOW.out hb)
        have HB3 : Hid (Below w.heap.size w w9) := Lib.hid (HB2.out.trans (hb.mono HB2.out.size))
        clear hb HOW HB2 k1 HC
        go_wp2
        exact ⟨⟨k + 1, by rw [HML.out]; exact hlt, by rw [HX2.out, hz], by go_num, by rw [HX2.out]; exact HOW2, HB3⟩, by simp [intOf]; omega⟩
      have HX2 : Hid (picksTo (l.map Sg.count) t (k + 1) = G ++ [k]) := Lib.hid (by rw [HS2.out, if_pos ⟨hl4, e⟩])
      have j : ((T : Int) == (t : Int)) = true := by simp; omega
      have hx1 := hx64.1
      have hx2 := hx64.2
      have HWW : Hid (w64 (w64 (sumOf (l.map Sg.count) G) + max x 0) = w64 (sumOf (l.map Sg.count) (G ++ [k]))) := Lib.hid hW
      clear HS2 HSN hTx hx64 hW
      generalize w64 (sumOf (l.map Sg.count) G) = z at *
      have u1 : IntKind.u64.wrap (max x 0) = max x 0 := by rw [IntKind.wrap_u64]; omega
      have u2' : IntKind.u64.wrap (z + max x 0) = w64 (z + max x 0) := by rw [IntKind.wrap_u64]; rfl
      go_wp2_with fail
      refine (HC _).mono ?_
      rintro _ w9 ⟨rfl, hb⟩
      have HOW2 := Lib.hid (own_keepT HOW.out hb)
      have HB3 : Hid (Below w.heap.size w w9) := Lib.hid (HB2.out.trans (hb.mono HB2.out.size))
      clear hb HOW HB2 k1 HC
      have HOA : Hid ((w9.alloc (.cells #[.int .i64 (k : Int)] 3)).ownsRow w.heap.size 3 1 (.slice A5 G.length c5) G.length (G.map IV)) := Lib.hid (HOW2.out.alloc _)
      have HBA : Hid (Below w.heap.size w (w9.alloc (.cells #[.int .i64 (k : Int)] 3))) := Lib.hid (HB3.out.trans (((Below.refl _ w9).alloc (Nat.le_refl _) _).mono HB3.out.size))
      clear HOW2 HB3
      go_wp2_with (at_builtin; refine wpList_append_own _ rfl _ _ 26 rfl w.heap.size 3 i9 (.int .i64 0) 1 8 Try.underlying26 hi hz0 hz1 hz2 rfl (by decide) (.slice A5 G.length c5) _ _ (by rfl) HOA.out ⟨w9.heap.size, 0, none⟩ 1 1 ([k].map IV) (by rfl) (by simp) (cellNew _ _ _) (iv_ones _) ?c3 ?c4 HBA.out.size ?_)
      case c3 => unfold maxLen; omega
      case c4 => omega
      intro v2 w3 hown2 hg2 _
      have hb2 : Below w.heap.size w w3 := HBA.out.grown hg2 HBA.out.size (own_lt1 HOA.out)
      have HO2 : Hid (w3.ownsRow w.heap.size 3 1 v2 (G ++ [k]).length ((G ++ [k]).map IV)) := Lib.hid (by
        rw [List.map_append, List.length_append]
        exact hown2)
      have k3 := cell_up hb2 (p := ⟨g, off + k * 4 + 1, none⟩) hg HP.out
      have HB4 := Lib.hid hb2
      clear hown2 hg2 hb2 HOA HBA HP
      go_wp2
      exact ⟨⟨k + 1, by rw [HML.out]; exact hlt, by rw [HX2.out, HWW.out], by go_num, by rw [HX2.out]; exact HO2, HB4⟩, by simp [intOf]; omega⟩
end Go.Proofs.Ytepbnclpiojoaaa.PnPicks0W
