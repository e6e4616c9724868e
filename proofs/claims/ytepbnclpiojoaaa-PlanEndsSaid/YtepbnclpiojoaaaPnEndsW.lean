/- PlanEnds' walk, over the contracts of the program's plan. Conditions: the numbers lie in memory, each an uint16. -/
import Derived.Test.YtepbnclpiojoaaaPnAwake
import Derived.Test.YtepbnclpiojoaaaPnEndsP
import Derived.Test.YtepbnclpiojoaaaPnU16
namespace Go.Proofs.Ytepbnclpiojoaaa.PnEndsW
open Go Go.RowKit Words AppN PnSpec PnEnds PnStep SgMem PnRef PnGone PnMerge PnSame PnLaw PnAwake PnEndsP PnU16

theorem own_monoS {w : World} {base base' n size : Nat} {e : TypeId} {v : Value} {xs : List Value} (h : w.ownsRow base e size v n xs) (hb : base' ≤ base) : w.ownsRow base' e size v n xs :=
  ⟨h.1, h.2.imp id fun ⟨g, cap, cur, h1, h2, h3⟩ => ⟨g, cap, cur, h1, Nat.le_trans hb h2, h3⟩⟩
theorem own_keepS {w w' : World} {base n size : Nat} {e : TypeId} {v : Value} {xs : List Value} (h : w.ownsRow base e size v n xs) (hb : Below w.heap.size w w') : w'.ownsRow base e size v n xs :=
  ⟨h.1, h.2.imp id fun ⟨g, cap, cur, h1, h2, h3, h4⟩ => ⟨g, cap, cur, h1, h2, (hb.block g (Array.getElem?_eq_some_iff.1 h3).1).trans h3, h4⟩⟩
theorem own_ltS {w : World} {base n size : Nat} {e : TypeId} {v : Value} {xs : List Value} (h : w.ownsRow base e size v n xs) : ∀ k, v.ownBlock = some k → base ≤ k := fun k hk => (h.lt k hk).1
theorem cell4 (w : World) (a0 a1 a2 a3 : Int) : ∀ j u, (scells ⟨a0, a1, a2, a3⟩)[j]? = some u → (w.alloc (.cells #[.int .i64 a0, .int .i64 a1, .int .i64 a2, .int .i64 a3] 33)).cell? ((⟨w.heap.size, 0, none⟩ : Addr).add j) = some u := by
  intro j u h
  rw [add_off, Nat.zero_add]
  exact cell_of_heapS (heap_alloc_new w _) (by simpa [scells] using h)
theorem cell16 {w : World} {b off : Nat} {l : List Nat} (hc : ∀ j u, (l.map V16)[j]? = some u → w.cell? ⟨b, off + j, none⟩ = some u) {k : Nat} (hk : k < l.length) : w.cell? ⟨b, off + k, none⟩ = some (.int .u16 ((l[k] : Nat) : Int)) := hc k _ (by simp [hk, V16])
/-- While the segments are made. -/
def BRel (W : World) (ns : List Nat) (v5 v6 v7 : Value) (wr : World) : Prop :=
  ∃ k : Nat, k ≤ ns.length ∧ k ≤ 300 ∧ v6 = .int .i64 (cnts (segTo ns k)).sum ∧ v7 = .int .i64 (k : Int) ∧ Hid (wr.ownsRow W.heap.size 33 4 v5 k (flatS (segTo ns k))) ∧ Hid (Below W.heap.size W wr)
/-- Between two turns. -/
def ERel (W : World) (v5 v6 v8 : Value) (wr : World) : Prop :=
  ∃ (l : List Sg) (tn : Nat), v6 = .int .i64 (cnts l).sum ∧ v8 = .int .i64 (tn : Int) ∧ Hid (Run l tn) ∧ Hid (wr.ownsRow W.heap.size 33 4 v5 l.length (flatS l)) ∧ Hid (Below W.heap.size W wr)
/-- Within a turn. -/
def TRel (W : World) (l : List Sg) (L : List Nat) (v10 v11 v12 : Value) (wr : World) : Prop :=
  ∃ k : Nat, k ≤ l.length ∧ v10 = .int .i64 (inTo (cnts l) L k) ∧ v12 = .int .i64 (k : Int) ∧ Hid (wr.ownsRow W.heap.size 33 4 v11 (restS l L k).length (flatS (restS l L k))) ∧ Hid (Below W.heap.size W wr)

set_option maxHeartbeats 12800000 in
set_option maxRecDepth 100000 in
theorem ends_walk (pn : Pns) (w : World) (A A' : Option Addr) (ns left : List Nat) (c c' : Nat) (_hn : ns.length ≤ c) (_hc : c ≤ maxLen) (hr : Rd w w.heap.size A (ns.map V16)) (hv : ∀ x ∈ ns, x ≤ 65535)
    (hn' : left.length ≤ c') (hc' : c' ≤ maxLen) (hr' : Rd w w.heap.size A' (left.map V16)) (hv' : ∀ x ∈ left, x ≤ 65535) :
    Calls Try.prog 4 #[.slice A ns.length c, .slice A' left.length c'] w fun e w' => e = .returned (.bool true) ∧ Below w.heap.size w w' := by
  have HR := Lib.hid hr
  have HV := Lib.hid hv
  have HR' := Lib.hid hr'
  have HV' := Lib.hid hv'
  have HSUM := Lib.hid (segTo_sum hv)
  unfold maxLen at hc'
  clear hr hv hr' hv'
  obtain ⟨i0, hi, hz0, hz1, hz2⟩ := info_parts info_seg
  go_enter Try.func4, Try.ntmps4
  go_wp2_with fail
  refine (awake_any pn _).mono ?_
  rintro _ w1 ⟨rfl, hb1⟩
  have HB1 := Lib.hid hb1
  clear hb1
  go_wp2
  go_loopw [5, 6, 7] (fun v5 v6 v7 wr => BRel w ns v5 v6 v7 wr) (fun _ _ u _ => ns.length - (intOf u).toNat)
  case atStart => exact ⟨0, Nat.zero_le _, Nat.zero_le _, by simp [cnts, segTo], rfl, Lib.hid (by rw [show flatS (segTo ns 0) = [] from rfl]; exact World.ownsRow_nil _ _ _ _), HB1⟩
  case round =>
    obtain ⟨k, hk, hk3, rfl, rfl, HOW, HBr⟩ := hrel
    by_cases hlt : k < ns.length ∧ k < 300
    · obtain ⟨hlt, h300⟩ := hlt
      obtain ⟨g, off, eA, hg, hcs⟩ := HR.out (by simp; omega)
      subst eA
      have k1 := cell_up HBr.out (p := ⟨g, off + k, none⟩) hg (cell16 hcs hlt)
      have HP := Lib.hid (cell16 hcs hlt)
      have hx := HV.out _ (List.getElem_mem hlt)
      have hs := HSUM.out k
      have HX : Hid (segTo ns (k + 1) = segTo ns k ++ [⟨(k : Int) + 1, ((ns[k] : Nat) : Int) + 1, 0, 0⟩]) := Lib.hid (by rw [segTo_succ]; simp [List.getD_eq_getElem?_getD, hlt])
      have HXS : Hid ((cnts (segTo ns (k + 1))).sum = (cnts (segTo ns k)).sum + (((ns[k] : Nat) : Int) + 1)) := Lib.hid (by rw [HX.out, cnts_snoc])
      clear hcs
      generalize ns[k] = x at *
      generalize (cnts (segTo ns k)).sum = S at *
      have d1 : decide ((k : Int) < (ns.length : Int)) = true := decide_eq_true (by omega)
      have d2 : decide ((k : Int) < 300) = true := decide_eq_true (by omega)
      have HO1 : Hid ((wr.alloc (.cells #[.int .i64 ((k : Int) + 1), .int .i64 ((x : Int) + 1), .int .i64 0, .int .i64 0] 33)).ownsRow w.heap.size 33 4 u5 k (flatS (segTo ns k))) := Lib.hid (HOW.out.alloc _)
      have HB1 : Hid (Below w.heap.size w (wr.alloc (.cells #[.int .i64 ((k : Int) + 1), .int .i64 ((x : Int) + 1), .int .i64 0, .int .i64 0] 33))) := Lib.hid (HBr.out.trans (((Below.refl _ wr).alloc (Nat.le_refl _) _).mono HBr.out.size))
      have HN := Lib.hid (cell4 wr ((k : Int) + 1) ((x : Int) + 1) 0 0)
      go_wp2_with (at_builtin; refine wpList_append_own _ rfl (.tmp 26) (.tmp 36) 22 rfl w.heap.size 33 i0 _ 4 32 Try.underlying22 hi hz0 hz1 hz2 rfl (by decide) _ _ _ rfl HO1.out ⟨wr.heap.size, 0, none⟩ 1 1 (scells ⟨(k : Int) + 1, (x : Int) + 1, 0, 0⟩) rfl rfl HN.out (scells_ones _) ?c3 ?c4 HB1.out.size ?_)
      case c3 => unfold maxLen; omega
      case c4 => omega
      intro v2 w2 hown2 hg2 _
      have hb2 : Below w.heap.size w w2 := HB1.out.grown hg2 HB1.out.size (own_ltS HO1.out)
      have HO2 : Hid (w2.ownsRow w.heap.size 33 4 v2 (k + 1) (flatS (segTo ns (k + 1)))) := Lib.hid (by
        rw [HX.out, flatS_append, flatS_one]
        exact hown2)
      have HB2 := Lib.hid hb2
      have k2 := cell_up hb2 (p := ⟨g, off + k, none⟩) hg HP.out
      clear hown2 hg2 hb2 HOW HO1 HB1 HN k1 HBr
      go_wp2
      exact ⟨⟨k + 1, hlt, h300, by rw [HXS.out], by go_num, HO2, HB2⟩, by simp [intOf]; omega⟩
    · have hs := HSUM.out k
      have HLEN : Hid ((segTo ns k).length = k) := Lib.hid (segTo_len ns k)
      have HPOS : Hid (∀ c ∈ cnts (segTo ns k), 1 ≤ c) := Lib.hid (segTo_pos ns k)
      by_cases hkn : k < ns.length
      case' pos =>
        have d1 : decide ((k : Int) < (ns.length : Int)) = true := decide_eq_true (by omega)
        have d2 : decide ((k : Int) < 300) = false := decide_eq_false (by omega)
      case' neg =>
        have d1 : decide ((k : Int) < (ns.length : Int)) = false := decide_eq_false (by omega)
      all_goals
        clear hlt
        by_cases hbig : 65536 < (cnts (segTo ns k)).sum
        case pos =>
          generalize (cnts (segTo ns k)).sum = S at *
          have d3 : decide (65536 < S) = true := decide_eq_true hbig
          go_wp2
          go_ret
          exact ⟨rfl, HBr.out⟩
        have HRUN : Hid (Run (segTo ns k) 0) := Lib.hid ⟨HPOS.out, by omega, by rw [HLEN.out]; omega⟩
        have HST : Hid (∀ S, S = (cnts (segTo ns k)).sum → ERel w u5 (.int .i64 S) (.int .i64 0) wr) := Lib.hid fun S e => ⟨segTo ns k, 0, by rw [e], rfl, HRUN, by rw [HLEN.out]; exact HOW, HBr⟩
        obtain ⟨S, hS⟩ : ∃ S, S = (cnts (segTo ns k)).sum := ⟨_, rfl⟩
        have HST := Lib.hid (HST.out S hS)
        rw [← hS] at hbig ⊢
        have d3 : decide (65536 < S) = false := decide_eq_false hbig
        clear hS HRUN HOW HLEN HPOS HSUM hs HR HV hbig
        go_wp2
        go_loopw [5, 6, 8] (fun v5 v6 v8 wr => ERel w v5 v6 v8 wr) (fun _ _ v _ => 101 - (intOf v).toNat)
        case atStart => exact HST.out
        case round =>
          clear HBr HST d1 d3
          obtain ⟨l, tn, rfl, rfl, HRUN, HOW, HBr⟩ := hrel
          obtain ⟨A5, c5, rfl, hsg, _⟩ := own_sgs HOW.out
          have hfew := HRUN.out.few
          go_wp2_with fail
          refine (pn.merge _ (A5, _, c5) l hsg HRUN.out.ok (by omega)).mono ?_
          rintro _ w2 ⟨⟨A2, n2, c2⟩, rfl, hs2, hb2⟩
          have HB2 : Hid (Below w.heap.size w w2) := Lib.hid (HBr.out.trans (hb2.mono HBr.out.size))
          have HRD := Lib.hid ((hsg.below hb2).rd)
          have hcap := hsg.le
          have hcm := hsg.cap
          have HOW2 := Lib.hid (own_keepS HOW.out hb2)
          have hn2 := hs2.len
          have hc2 := hs2.le
          have hm2 := hs2.cap
          have HMR := Lib.hid hs2.rd
          simp only at hn2 hc2 hm2 HRD HMR hcap hcm
          unfold maxLen at hm2 hcm
          have hlow := HRUN.out.low
          have hmost := HRUN.out.most
          change n2 = (merge (cnts l)).length at hn2
          change Hid (Rd w2 w2.heap.size A2 ((merge (cnts l)).map IV)) at HMR
          subst hn2
          clear hb2 hs2 HOW HBr hsg
          unfold slV
          rcases merge_cases (cnts l) with hM | ⟨t, j0, j1, j2, j3, _, hM, hP, hF, hlo, h01, h12, h23, h3l⟩
          · have HE := Lib.hid (end_bound HRUN.out.pos hmost hM)
            have hlm : (merge (cnts l)).length = 0 := by rw [hM]; rfl
            rw [hlm]
            have HC := fun wz => pn.bound wz (cnts l).sum ⟨by omega, by omega⟩
            rw [cnts_len] at HE
            generalize bound (cnts l).sum = bd at *
            have d9 : decide ((l.length : Int) ≤ bd) = true := decide_eq_true HE.out
            clear hM hlm HMR hc2 HRD HOW2
            generalize (cnts l).sum = S at *
            go_wp2_with fail
            refine (HC _).mono ?_
            rintro _ w3 ⟨rfl, hb3⟩
            have HB3 : Hid (Below w.heap.size w w3) := Lib.hid (HB2.out.trans (hb3.mono HB2.out.size))
            clear hb3 HC HE
            go_wp2
            go_ret
            exact ⟨rfl, HB3.out⟩
          · rw [cnts_len] at h3l
            have hlm : (merge (cnts l)).length = 4 := by rw [hM]; rfl
            rw [hM] at HMR
            rw [hlm] at hc2 ⊢
            obtain ⟨g2, o2, eA, hg2, hm⟩ := HMR.out (by simp)
            subst eA
            have m0 := hm 0 _ rfl
            have m1 := hm 1 _ rfl
            have m2 := hm 2 _ rfl
            have m3 := hm 3 _ rfl
            simp only [Nat.add_zero, IV] at m0 m1 m2 m3
            have HM : Hid (w2.cell? ⟨g2, o2, none⟩ = some (.int .i64 (j0 : Int)) ∧ w2.cell? ⟨g2, o2 + 1, none⟩ = some (.int .i64 (j1 : Int)) ∧ w2.cell? ⟨g2, o2 + 2, none⟩ = some (.int .i64 (j2 : Int)) ∧ w2.cell? ⟨g2, o2 + 3, none⟩ = some (.int .i64 (j3 : Int))) := Lib.hid ⟨m0, m1, m2, m3⟩
            have HNX := Lib.hid (HRUN.out.next h01 h12 h23 h3l)
            have HIN := Lib.hid (inTo_le HRUN.out [j0, j1, j2, j3])
            have HEA := Lib.hid HRUN.out.each
            have e300 : decide (300 < (tn : Int)) = false := decide_eq_false (by omega)
            clear hM hP hF hlo hlm HMR hm m0 m1 m2 m3 HRUN
            go_wp2
            go_loopw [10, 11, 12] (fun v10 v11 v12 wr2 => TRel w2 l [j0, j1, j2, j3] v10 v11 v12 wr2) (fun _ _ v _ => l.length - (intOf v).toNat)
            case atStart => exact ⟨0, Nat.zero_le _, by simp [inTo], rfl, Lib.hid (World.ownsRow_nil _ _ _ _), Lib.hid (Below.refl _ _)⟩
            case round =>
              obtain ⟨k, hk, rfl, rfl, HOT, HBT⟩ := hrel
              have q0 := cell_up HBT.out (p := ⟨g2, o2, none⟩) hg2 HM.out.1
              have q1 := cell_up HBT.out (p := ⟨g2, o2 + 1, none⟩) hg2 HM.out.2.1
              have q2 := cell_up HBT.out (p := ⟨g2, o2 + 2, none⟩) hg2 HM.out.2.2.1
              have q3 := cell_up HBT.out (p := ⟨g2, o2 + 3, none⟩) hg2 HM.out.2.2.2
              have hI := HIN.out k hk
              by_cases hlt : k < l.length
              · have d1 : decide ((k : Int) < (l.length : Int)) = true := decide_eq_true (by omega)
                obtain ⟨g, off, eA, hg, hcs⟩ := HRD.out (by rw [flatS_len]; omega)
                subst eA
                obtain ⟨p0, p1, p2, p3⟩ := cellsS hcs hlt
                have k0 := cell_up HBT.out (p := ⟨g, off + k * 4, none⟩) hg p0
                have k1 := cell_up HBT.out (p := ⟨g, off + k * 4 + 1, none⟩) hg p1
                have k2 := cell_up HBT.out (p := ⟨g, off + k * 4 + 2, none⟩) hg p2
                have k3 := cell_up HBT.out (p := ⟨g, off + k * 4 + 3, none⟩) hg p3
                have hx := HEA.out _ (List.getElem_mem hlt)
                have HIS := Lib.hid (inTo_succ (cnts l) [j0, j1, j2, j3] k)
                have HRS := Lib.hid (restS_succ (L := [j0, j1, j2, j3]) hlt)
                rw [cnts_at hlt] at HIS
                have hrl := restS_len l [j0, j1, j2, j3] k
                clear hcs p0 p1 p2 p3 HR' HV' HNX HIN HEA HRD
                generalize l[k] = x at *
                obtain ⟨a0, a1, a2, a3⟩ := x
                simp only at k0 k1 k2 k3 hx HIS HRS
                by_cases hin : k = j0 ∨ k = j1 ∨ k = j2 ∨ k = j3
                · have hof : isOf [j0, j1, j2, j3] k = true := by
                    rcases hin with h | h | h | h <;> subst h <;> simp [isOf]
                  rw [if_pos hof] at HIS HRS
                  have HEND : Hid (TRel w2 l [j0, j1, j2, j3] (.int .i64 (inTo (cnts l) [j0, j1, j2, j3] k + a1)) u11 (.int .i64 ((k : Int) + 1)) wr ∧ l.length - (intOf (.int .i64 ((k : Int) + 1))).toNat < l.length - (intOf (.int .i64 (k : Int))).toNat) :=
                    Lib.hid ⟨⟨k + 1, hlt, by rw [HIS.out], by go_num, by rw [HRS.out]; exact HOT, HBT⟩, by simp [intOf]; omega⟩
                  clear hof HIS HRS HOT HBT
                  generalize inTo (cnts l) [j0, j1, j2, j3] k = I at *
                  by_cases e0 : k = j0
                  · have b0 : ((k : Int) == (j0 : Int)) = true := by simp; omega
                    clear hin e0
                    go_wp2
                    exact HEND.out
                  have b0 : ((k : Int) == (j0 : Int)) = false := by simp; omega
                  by_cases e1 : k = j1
                  · have b1 : ((k : Int) == (j1 : Int)) = true := by simp; omega
                    clear hin e0 e1
                    go_wp2
                    exact HEND.out
                  have b1 : ((k : Int) == (j1 : Int)) = false := by simp; omega
                  by_cases e2 : k = j2
                  · have b2 : ((k : Int) == (j2 : Int)) = true := by simp; omega
                    clear hin e0 e1 e2
                    go_wp2
                    exact HEND.out
                  have b2 : ((k : Int) == (j2 : Int)) = false := by simp; omega
                  have b3 : ((k : Int) == (j3 : Int)) = true := by simp; omega
                  clear hin e0 e1 e2
                  go_wp2
                  exact HEND.out
                · have hof : ¬ isOf [j0, j1, j2, j3] k = true := by simp [isOf]; omega
                  rw [if_neg hof] at HIS HRS
                  have b0 : ((k : Int) == (j0 : Int)) = false := by simp; omega
                  have b1 : ((k : Int) == (j1 : Int)) = false := by simp; omega
                  have b2 : ((k : Int) == (j2 : Int)) = false := by simp; omega
                  have b3 : ((k : Int) == (j3 : Int)) = false := by simp; omega
                  have HOA : Hid ((wr.alloc (.cells #[.int .i64 a0, .int .i64 a1, .int .i64 a2, .int .i64 a3] 33)).ownsRow w2.heap.size 33 4 u11 (restS l [j0, j1, j2, j3] k).length (flatS (restS l [j0, j1, j2, j3] k))) := Lib.hid (HOT.out.alloc _)
                  have HBA : Hid (Below w2.heap.size w2 (wr.alloc (.cells #[.int .i64 a0, .int .i64 a1, .int .i64 a2, .int .i64 a3] 33))) := Lib.hid (HBT.out.trans (((Below.refl _ wr).alloc (Nat.le_refl _) _).mono HBT.out.size))
                  have HN := Lib.hid (cell4 wr a0 a1 a2 a3)
                  have HEND : Hid (∀ v' wz, Hid (wz.ownsRow w2.heap.size 33 4 v' ((restS l [j0, j1, j2, j3] k).length + 1) (flatS (restS l [j0, j1, j2, j3] k) ++ scells ⟨a0, a1, a2, a3⟩)) → Hid (Below w2.heap.size w2 wz) →
                      TRel w2 l [j0, j1, j2, j3] (.int .i64 (inTo (cnts l) [j0, j1, j2, j3] k)) v' (.int .i64 ((k : Int) + 1)) wz ∧ l.length - (intOf (.int .i64 ((k : Int) + 1))).toNat < l.length - (intOf (.int .i64 (k : Int))).toNat) :=
                    Lib.hid fun v' wz ho hb => ⟨⟨k + 1, hlt, by rw [HIS.out], by go_num, by rw [HRS.out, List.length_append, flatS_append, flatS_one]; exact ho, hb⟩, by simp [intOf]; omega⟩
                  clear hof hin HIS HRS HOT HBT
                  generalize inTo (cnts l) [j0, j1, j2, j3] k = I at *
                  generalize restS l [j0, j1, j2, j3] k = R at *
                  go_wp2_with (at_builtin; refine wpList_append_own _ rfl (.tmp 101) (.tmp 106) 22 rfl w2.heap.size 33 i0 _ 4 32 Try.underlying22 hi hz0 hz1 hz2 rfl (by decide) _ _ _ rfl HOA.out ⟨wr.heap.size, 0, none⟩ 1 1 (scells ⟨a0, a1, a2, a3⟩) rfl rfl HN.out (scells_ones _) ?c3 ?c4 HBA.out.size ?_)
                  case c3 => unfold maxLen; omega
                  case c4 => omega
                  intro v2 w9 hown9 hg9 _
                  have HO9 := Lib.hid hown9
                  have HB9 : Hid (Below w2.heap.size w2 w9) := Lib.hid (HBA.out.grown hg9 HBA.out.size (own_ltS HOA.out))
                  clear hown9 hg9 HOA HBA HN k0 k1 k2 k3 q0 q1 q2 q3
                  go_wp2
                  exact HEND.out _ _ HO9 HB9
              · obtain rfl : k = l.length := by omega
                have d1 : decide ((l.length : Int) < (l.length : Int)) = false := decide_eq_false (by omega)
                obtain ⟨n1, n2, n3, hnx⟩ := HNX.out
                have HX := Lib.hid hnx
                have j26 : (((restS l [j0, j1, j2, j3] l.length).length : Int) != (l.length : Int) - 4) = false := by simp; omega
                clear hlt HNX HIN HEA HRD HM q0 q1 q2 q3 hnx
                generalize inTo (cnts l) [j0, j1, j2, j3] l.length = I at *
                generalize restS l [j0, j1, j2, j3] l.length = R at *
                generalize (cnts l).sum = S at *
                obtain ⟨A11, c11, rfl, _, _⟩ := own_sgs HOT.out
                have HEND : ∀ (n : Int), 1 ≤ n → n ≤ I → Hid (∀ v' wz, wz.ownsRow w2.heap.size 33 4 v' (R.length + 1) (flatS R ++ scells ⟨1000 + (tn : Int), n, 0, 0⟩) → Below w2.heap.size w2 wz →
                    ERel w v' (.int .i64 (S - (I - n))) (.int .i64 ((tn : Int) + 1)) wz ∧ 101 - (intOf (.int .i64 ((tn : Int) + 1))).toNat < 101 - (intOf (.int .i64 (tn : Int))).toNat) := fun n h1 h2 => Lib.hid fun v' wz ho hb => by
                  obtain ⟨r1, r2⟩ := HX.out n (1000 + (tn : Int)) h1 h2
                  refine ⟨⟨R ++ [⟨1000 + (tn : Int), n, 0, 0⟩], tn + 1, by rw [r2], by go_num, Lib.hid r1, Lib.hid ?_, Lib.hid (HB2.out.trans (hb.mono HB2.out.size))⟩, by simp [intOf]; omega⟩
                  rw [List.length_append, flatS_append, flatS_one]
                  exact own_monoS ho HB2.out.size
                by_cases htl : tn < left.length
                · have d5 : decide ((tn : Int) < (left.length : Int)) = true := decide_eq_true (by omega)
                  obtain ⟨g9, o9, eB, hg9, hc9⟩ := HR'.out (by simp; omega)
                  subst eB
                  have kl := cell_up HBT.out (p := ⟨g9, o9 + tn, none⟩) (by have := HB2.out.size; simp only; omega) (cell_up HB2.out (p := ⟨g9, o9 + tn, none⟩) hg9 (cell16 hc9 htl))
                  have hx := HV'.out _ (List.getElem_mem htl)
                  clear hc9 HR' HV'
                  generalize left[tn] = x at *
                  obtain ⟨r, hr⟩ : ∃ r, (x : Int).tmod I = r := ⟨_, rfl⟩
                  have hr0 : 0 ≤ r := by rw [← hr]; exact Int.tmod_nonneg _ (by omega)
                  have hr1 : r < I := by rw [← hr]; exact Int.tmod_lt_of_pos _ (by omega)
                  have HE2 := HEND (r + 1) (by omega) (by omega)
                  clear HEND HX
                  have hI1 : (I == 0) = false := by simp; omega
                  have HOA : Hid ((wr.alloc (.cells #[.int .i64 (1000 + (tn : Int)), .int .i64 (r + 1), .int .i64 0, .int .i64 0] 33)).ownsRow w2.heap.size 33 4 (.slice A11 R.length c11) R.length (flatS R)) := Lib.hid (HOT.out.alloc _)
                  have HBA : Hid (Below w2.heap.size w2 (wr.alloc (.cells #[.int .i64 (1000 + (tn : Int)), .int .i64 (r + 1), .int .i64 0, .int .i64 0] 33))) := Lib.hid (HBT.out.trans (((Below.refl _ wr).alloc (Nat.le_refl _) _).mono HBT.out.size))
                  have HN := Lib.hid (cell4 wr (1000 + (tn : Int)) (r + 1) 0 0)
                  clear HOT HBT HB2 HOW2
                  go_wp2_with (at_builtin; refine wpList_append_own _ rfl (.tmp 132) (.tmp 137) 22 rfl w2.heap.size 33 i0 _ 4 32 Try.underlying22 hi hz0 hz1 hz2 rfl (by decide) _ _ _ rfl HOA.out ⟨wr.heap.size, 0, none⟩ 1 1 (scells ⟨1000 + (tn : Int), r + 1, 0, 0⟩) rfl rfl HN.out (scells_ones _) ?c3 ?c4 HBA.out.size ?_)
                  case c3 => unfold maxLen; omega
                  case c4 => omega
                  intro v2 w9 hown9 hg9 _
                  have HO9 := Lib.hid hown9
                  have HB9 : Hid (Below w2.heap.size w2 w9) := Lib.hid (HBA.out.grown hg9 HBA.out.size (own_ltS HOA.out))
                  clear hown9 hg9 HOA HBA HN
                  go_wp2
                  exact HE2.out _ _ HO9.out HB9.out
                · have d5 : decide ((tn : Int) < (left.length : Int)) = false := decide_eq_false (by omega)
                  have HE2 := HEND I (by omega) (by omega)
                  rw [show S - (I - I) = S by omega] at HE2
                  clear HEND HX
                  have HOA : Hid ((wr.alloc (.cells #[.int .i64 (1000 + (tn : Int)), .int .i64 (I), .int .i64 0, .int .i64 0] 33)).ownsRow w2.heap.size 33 4 (.slice A11 R.length c11) R.length (flatS R)) := Lib.hid (HOT.out.alloc _)
                  have HBA : Hid (Below w2.heap.size w2 (wr.alloc (.cells #[.int .i64 (1000 + (tn : Int)), .int .i64 (I), .int .i64 0, .int .i64 0] 33))) := Lib.hid (HBT.out.trans (((Below.refl _ wr).alloc (Nat.le_refl _) _).mono HBT.out.size))
                  have HN := Lib.hid (cell4 wr (1000 + (tn : Int)) (I) 0 0)
                  clear HOT HBT HB2 HOW2
                  go_wp2_with (at_builtin; refine wpList_append_own _ rfl (.tmp 132) (.tmp 137) 22 rfl w2.heap.size 33 i0 _ 4 32 Try.underlying22 hi hz0 hz1 hz2 rfl (by decide) _ _ _ rfl HOA.out ⟨wr.heap.size, 0, none⟩ 1 1 (scells ⟨1000 + (tn : Int), I, 0, 0⟩) rfl rfl HN.out (scells_ones _) ?c3 ?c4 HBA.out.size ?_)
                  case c3 => unfold maxLen; omega
                  case c4 => omega
                  intro v2 w9 hown9 hg9 _
                  have HO9 := Lib.hid hown9
                  have HB9 : Hid (Below w2.heap.size w2 w9) := Lib.hid (HBA.out.grown hg9 HBA.out.size (own_ltS HOA.out))
                  clear hown9 hg9 HOA HBA HN
                  go_wp2
                  exact HE2.out _ _ HO9.out HB9.out
end Go.Proofs.Ytepbnclpiojoaaa.PnEndsW
