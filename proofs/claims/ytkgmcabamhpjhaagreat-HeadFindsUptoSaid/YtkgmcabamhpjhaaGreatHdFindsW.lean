/- HeadFinds, walked over the contracts of head's calls. Condition: the records together are below 2^20 bytes, and so is the term. -/
import Derived.Test.YtkgmcabamhpjhaaGreatHdFindsP
import Derived.Deep.RegionLaw
import Derived.BigQuiet
import Derived.StillTailTactics
namespace Go.Proofs.YtkgmcabamhpjhaaGreat.HdFindsW
open Go Go.RowKit Words AppN Less LbSpec LbMem LbRef RcSpec RcAll RcMem RcRef LbOpen RcOpen HdSpec HdRm HdMem HdKm HdLaw HdAwake HdTakesW HdFind HdFindsP TxSame UtOwn Km

def MRel (w : World) (l : List RM) (vm vi : Value) (wr : World) : Prop := ∃ k : Nat, k ≤ l.length ∧ vi = .int .i64 (k : Int) ∧ Hid (wr.ownsRow w.heap.size 47 4 vm (picks (l.take k)).length (flatR (picks (l.take k)))) ∧ Hid (Below w.heap.size w wr)

def WRel (w12 : World) (L : List Rec) (t : List UInt8) (n : Nat) (vw vi : Value) (wr : World) : Prop := ∃ i : Nat, i ≤ n ∧ vi = .int .i64 (i : Int) ∧ Hid (wr.ownsRow w12.heap.size 44 1 vw (findTo L t i).length ((findTo L t i).map B64)) ∧ Hid (Below w12.heap.size w12 wr)
/-- What the inner loop has found among the first j terms. -/
def got (F : List UInt64) (T : List (List UInt8)) (t : List UInt8) (i j : Nat) : List UInt64 := if t ∈ T.take j then F ++ [UInt64.ofNat i] else F
def VRel (w12 : World) (F : List UInt64) (T : List (List UInt8)) (t : List UInt8) (i : Nat) (A : Option Addr) (vw vj : Value) (wr : World) : Prop := ∃ j : Nat, j ≤ T.length ∧ vj = .int .i64 (j : Int) ∧ Hid (wr.ownsRow w12.heap.size 44 1 vw (got F T t i j).length ((got F T t i j).map B64)) ∧ Hid (Below w12.heap.size w12 wr) ∧
  Hid (Rd wr wr.heap.size A (T.map S8) ∧ ∀ b off, A = some ⟨b, off, .none⟩ → 0 < T.length → vw.ownBlock ≠ some b)
theorem got_yes {F : List UInt64} {T : List (List UInt8)} {t : List UInt8} {i j : Nat} (hT : Rises T) (hj : j < T.length) (e : T[j] = t) : got F T t i j = F ∧ got F T t i (j + 1) = F ++ [UInt64.ofNat i] := by
  constructor
  · unfold got
    rw [if_neg]
    intro h
    obtain ⟨a, ha, e2⟩ := List.mem_iff_getElem.1 h
    rw [List.length_take] at ha
    rw [List.getElem_take] at e2
    have h3 := List.pairwise_iff_getElem.1 hT a j (by omega) hj (by omega)
    rw [e2, e, less_irrefl] at h3
    cases h3
  · unfold got
    rw [if_pos]
    rw [List.take_succ_eq_append_getElem hj, e]
    simp
theorem got_no {F : List UInt64} {T : List (List UInt8)} {t : List UInt8} {i j : Nat} (hj : j < T.length) (e : T[j] ≠ t) : got F T t i (j + 1) = got F T t i j := by
  have h : t ∈ T.take (j + 1) ↔ t ∈ T.take j := by
    rw [List.take_succ_eq_append_getElem hj, List.mem_append, List.mem_singleton]
    exact ⟨fun h => h.resolve_right (fun h => e h.symm), .inl⟩
  unfold got
  simp only [h]
theorem got_end {F : List UInt64} {T : List (List UInt8)} {t : List UInt8} {i : Nat} : got F T t i T.length = if t ∈ T then F ++ [UInt64.ofNat i] else F := by unfold got; rw [List.take_length]
theorem drewN_to {w w' : World} {B : Nat} (h : Below B w w') (n : Nat) : Below B w (w'.drewN n) := ⟨h.os, h.tape, h.output, h.size, h.block⟩
theorem size_mem {ms : List RM} {m : RM} (h : m ∈ ms) : sizeR m.1 ≤ totalR ms := by
  obtain ⟨a, b, rfl⟩ := List.append_of_mem h
  rw [total_append, show m :: b = [m] ++ b from rfl, total_append]
  have : totalR [m] = sizeR m.1 := by simp [totalR]
  omega

set_option maxHeartbeats 12800000 in
set_option maxRecDepth 100000 in
theorem finds_walk {HeadR : World → (Nat → Nat) → Nat → Nat → HSt → Prop} (P : Hed HeadR) (w : World) (l : List RM) (A : Option Addr) (c : Nat) (h : Rl w A l.length c l) (hz : totalR l ≤ 1048576) (cut : Int) (t : List UInt8) (ht : t.length ≤ 1048576) :
    Calls Tryz.prog 5 #[.slice A l.length c, .int .i64 cut, .string ⟨t.toArray⟩] w fun e w' => e = .returned (.bool true) ∧ Below w.heap.size w w' := by
  obtain ⟨i1, gi, gz0, gz1, gz2⟩ := info_parts info_record
  obtain ⟨i2, ui, uz0, uz1, uz2⟩ := info_parts HdFind.info_u64
  have HL := Lib.hid h
  have hll := Nat.le_trans (len_total l) hz
  have HA := Lib.hid (awake_any P w)
  obtain ⟨_, hnc, hcm, _, _⟩ := h
  unfold maxLen at hcm
  go_enter Tryz.func5, Tryz.ntmps5
  go_wp2_with fail
  refine HA.out.mono ?_
  rintro e w1 ⟨rfl, hb1⟩
  have HB1 := Lib.hid hb1
  clear hb1 HA
  go_wp2
  go_loopw [7, 8] (fun vm vi wr => MRel w l vm vi wr) (fun _ vi _ => l.length - (intOf vi).toNat)
  case atStart => exact ⟨0, Nat.zero_le _, rfl, Lib.hid (World.ownsRow_nil ..), HB1⟩
  case round =>
    obtain ⟨k, hk, rfl, HO, HB⟩ := hrel
    clear HB1
    by_cases hlt : k < l.length
    · obtain ⟨b1, o1, rfl, hbb, hc⟩ := HL.out.rd (by rw [flatR_len]; omega)
      obtain ⟨q0, q1, q2, q3⟩ := cellsR hc hlt
      have k0 := (HB.out.cell (p := ⟨b1, o1 + k * 4, .none⟩) hbb).trans q0
      have k1 := (HB.out.cell (p := ⟨b1, o1 + k * 4 + 1, .none⟩) hbb).trans q1
      have k2 := (HB.out.cell (p := ⟨b1, o1 + k * 4 + 2, .none⟩) hbb).trans q2
      have k3 := (HB.out.cell (p := ⟨b1, o1 + k * 4 + 3, .none⟩) hbb).trans q3
      have HY := Lib.hid (picks_yes hlt)
      have HN := Lib.hid (picks_no hlt)
      have hok := okm_setSeq ((HL.out.each _ (List.getElem_mem hlt)).below HB.out) (s := k) (by omega)
      have hpl : (picks (l.take k)).length ≤ k := Nat.le_trans (picks_len _) (List.length_take_le _ _)
      unfold slV at k2
      unfold setSeq at HY HN hok
      generalize l[k] = m at *
      generalize picks (l.take k) = M at *
      obtain ⟨⟨tm, s, ls, ln⟩, Am, nm, cm⟩ := m
      simp only at k0 k1 k2 k3 HY HN hok
      clear hc q0 q1 q2 q3
      have hwk : IntKind.u64.wrap (k : Int) = (k : Int) := by rw [IntKind.wrap_u64]; omega
      have hb2 : Below wr.heap.size wr (wr.alloc (.cells #[.int .i64 tm, .int .u64 (k : Int), .slice Am nm cm, .string ⟨ln.toArray⟩] 47)) := (Below.refl _ wr).alloc (Nat.le_refl _) _
      have CC := Lib.hid (P.check _ _ (hok.below hb2))
      have HBOX := Lib.hid (heap_alloc_new wr (.cells #[.int .i64 tm, .int .u64 (k : Int), .slice Am nm cm, .string ⟨ln.toArray⟩] 47))
      have hsz : wr.heap.size < (wr.alloc (.cells #[.int .i64 tm, .int .u64 (k : Int), .slice Am nm cm, .string ⟨ln.toArray⟩] 47)).heap.size := by simp
      unfold aggR slV S8 at CC
      simp only at CC
      generalize check ⟨tm, k, ls, ln⟩ = e0 at *
      go_wp2_with fail
      refine CC.out.mono ?_
      rintro e w5 ⟨rfl, hb5⟩
      have hb6 : Below wr.heap.size wr w5 := hb2.trans (hb5.mono hb2.size)
      have HB5 : Hid (Below w.heap.size w w5) := Lib.hid (HB.out.trans (hb6.mono HB.out.size))
      have HO5 := Lib.hid (LbCanon.own_keepN HO.out hb6)
      have hbx5 : w5.heap[wr.heap.size]? = _ := (hb5.block _ hsz).trans HBOX.out
      have z0 : w5.cell? ⟨wr.heap.size, 0, .none⟩ = _ := HdTerms.cell_of_heap (j := 0) hbx5 rfl
      have z1 : w5.cell? ⟨wr.heap.size, 1, .none⟩ = _ := HdTerms.cell_of_heap (j := 1) hbx5 rfl
      have z2 : w5.cell? ⟨wr.heap.size, 2, .none⟩ = _ := HdTerms.cell_of_heap (j := 2) hbx5 rfl
      have z3 : w5.cell? ⟨wr.heap.size, 3, .none⟩ = _ := HdTerms.cell_of_heap (j := 3) hbx5 rfl
      clear CC HO HB hb2 hb5 hb6 hbx5 HBOX hsz hok k0 k1 k2 k3
      by_cases he : e0 = 0
      · have j1 : ((e0 : Int) == 0) = true := by simp [he]
        have HSN := Lib.hid (HY.out he)
        have hb7 : Below w5.heap.size w5 (w5.alloc (.cells #[.int .i64 tm, .int .u64 (k : Int), .slice Am nm cm, .string ⟨ln.toArray⟩] 47)) := (Below.refl _ w5).alloc (Nat.le_refl _) _
        have HO7 := Lib.hid (LbCanon.own_keepN HO5.out hb7)
        have HB7 : Hid (Below w.heap.size w (w5.alloc (.cells #[.int .i64 tm, .int .u64 (k : Int), .slice Am nm cm, .string ⟨ln.toArray⟩] 47))) := Lib.hid (HB5.out.trans (hb7.mono HB5.out.size))
        have HM7 := Lib.hid (Rd.made w5 #[.int .i64 tm, .int .u64 (k : Int), .slice Am nm cm, .string ⟨ln.toArray⟩] 47)
        have hs5 := HB5.out.size
        clear hb7 HY HN HO5 HB5
        go_wp2_with (at_builtin; refine wpList_append_rd _ rfl (.tmp 36) (.tmp 38) 28 rfl w.heap.size 4 47 i1 (.agg #[.int .i64 0, .int .u64 0, .slice .none 0 0, .string ByteArray.empty]) 56 Tryz.underlying28 gi gz0 gz1 gz2 rfl (by omega) _ _ _ rfl HO7.out (w5.heap.size + 1) (some ⟨w5.heap.size, 0, .none⟩) 1 1 [.int .i64 tm, .int .u64 (k : Int), .slice Am nm cm, .string ⟨ln.toArray⟩] rfl rfl HM7.out ?f1 ?f2 ?f3 ?f4 ?_)
        case f1 => intro u hu; simp at hu; rcases hu with rfl | rfl | rfl | rfl <;> rfl
        case f2 => unfold maxLen; omega
        case f3 => omega
        case f4 => simp; omega
        intro v' w9 hown9 hg9 hv9
        have HO9 : Hid (w9.ownsRow w.heap.size 47 4 v' (M ++ [((⟨tm, k, ls, ln⟩, Am, nm, cm) : RM)]).length (flatR (M ++ [((⟨tm, k, ls, ln⟩, Am, nm, cm) : RM)]))) := Lib.hid (by
          rw [List.length_append, flatR_append, flatR_one]
          exact hown9)
        have HB9 : Hid (Below w.heap.size w w9) := Lib.hid (HB7.out.grown hg9 HB7.out.size (fun g h => (HO7.out.lt g h).1))
        clear hown9 hg9 hv9 HO7 HB7 HM7
        go_wp2
        exact ⟨⟨k + 1, by omega, by go_num, by rw [HSN.out]; exact HO9, HB9⟩, by simp [intOf]; omega⟩
      · have j1 : ((e0 : Int) == 0) = false := by simp [he]
        have HSN := Lib.hid (HN.out he)
        clear HY HN
        go_wp2
        exact ⟨⟨k + 1, by omega, by go_num, by rw [HSN.out]; exact HO5, HB5⟩, by simp [intOf]; omega⟩
    · obtain rfl : k = l.length := by omega
      rw [List.take_length] at HO
      have HMEM := Lib.hid (fun m => mem_picks (l := l) (m := m))
      have HTOT : Hid (totalR (picks l) ≤ 1048576) := Lib.hid (Nat.le_trans (total_picks l) hz)
      have HRISE := Lib.hid (picks_rise l)
      have hmn : (picks l).length ≤ 1048576 := Nat.le_trans (picks_len l) hll
      generalize picks l = M at *
      obtain ⟨Am, cm, rfl, hm1, hm2, hmr⟩ := own_row HO.out (flatR_len M)
      have HRL : Hid (Rl wr Am M.length cm M ∧ Lies (fun _ => 0) (fun x => x = 0) Am M) := Lib.hid (by
        refine ⟨⟨rfl, hm1, hm2, hmr, fun m hm => ?_⟩, ⟨fun _ _ _ _ => rfl, fun _ _ _ _ _ _ => rfl⟩⟩
        obtain ⟨_, i, hi, rfl⟩ := HMEM.out m hm
        exact okm_setSeq ((HL.out.each _ (List.getElem_mem hi)).below HB.out) (by omega))
      have RLAT : Hid (∀ K wX, Mo (fun _ => 0) K (fun x => x = 1 ∨ x = 2) wr wX → Rl wX Am M.length cm M ∧ Lies K (fun x => x = 0) Am M) := Lib.hid (fun K wX hmo => rl_mo HRL.out.1 HRL.out.2 hmo (by rintro q rfl; decide))
      have HC : Hid (∀ r ∈ recsOf M, check r = 0) := Lib.hid (fun r hr => by
        obtain ⟨m, hm, rfl⟩ := List.mem_map.1 hr
        exact (HMEM.out m hm).1)
      have HXL := Lib.hid (recs_len M)
      unfold maxLen at hm2
      clear hmr HO hk hlt
      by_cases hbig : 65536 < M.length
      · have j1 : (65536 : Int) < (M.length : Int) := by omega
        go_wp2
        go_ret
        exact ⟨rfl, HB.out⟩
      · have j1 : ¬ (65536 : Int) < (M.length : Int) := by omega
        obtain ⟨k, hk⟩ : ∃ k : Nat, (k : Int) = (IntKind.u64.wrap cut).tmod ((M.length : Int) + 1) ∧ k ≤ M.length := by
          refine ⟨((IntKind.u64.wrap cut).tmod ((M.length : Int) + 1)).toNat, ?_, ?_⟩
          · rw [Int.toNat_of_nonneg]
            exact Int.tmod_nonneg _ (by rw [IntKind.wrap_u64]; omega)
          · have := Int.tmod_lt_of_pos (IntKind.u64.wrap cut) (show (0 : Int) < (M.length : Int) + 1 by omega)
            omega
        obtain ⟨hk1, hk2⟩ := hk
        have hk3 := hk1.symm
        clear hk1
        have hk4 : (k : Int) ≤ (M.length : Int) := by omega
        have hk5 : (k : Int) ≤ (cm : Int) := by omega
        have hk6 : (0 : Int) ≤ (k : Int) := by omega
        have hk7 : k ≤ cm := by omega
        have hx := recs_len M
        obtain ⟨a1, a2⟩ := add_once HC.out HRISE.out (by omega)
        obtain ⟨b1, b2, b3⟩ := add_twice k HC.out HRISE.out (by omega)
        have HT1 : Hid (recsOf (M.take k) = (recsOf M).take k) := Lib.hid (by simp [recsOf, List.map_take])
        have HT2 : Hid (recsOf (M.drop k) = (recsOf M).drop k) := Lib.hid (by simp [recsOf, List.map_drop])
        have HS1 := Lib.hid a2
        have HS2 := Lib.hid b3
        have HE := Lib.hid (And.intro a1 (And.intro b1 b2))
        obtain ⟨wm, hwm⟩ : ∃ wm, wm = wr := ⟨_, rfl⟩
        subst hwm
        have CN := Lib.hid (P.new wm (fun _ => 0) 1)
        clear a1 a2 b1 b2 b3 hx
        go_wp2_with fail
        refine CN.out.mono ?_
        rintro e w2 ⟨p, K2, rfl, hr2, hm2'⟩
        have HM2 := Lib.hid (hm2'.widen (S' := fun x => x = 1 ∨ x = 2) (fun _ h => h.elim))
        have CN2 := Lib.hid (P.new w2 K2 2)
        have HR2 := Lib.hid hr2
        clear CN hr2 hm2'
        go_wp2_with fail
        refine CN2.out.mono ?_
        rintro e w3 ⟨q, K3, rfl, hr3, hm3⟩
        have HM3 := Lib.hid (HM2.out.trans (hm3.widen (S' := fun x => x = 1 ∨ x = 2) (fun _ h => h.elim)))
        have HP3 := Lib.hid (P.mo HR2.out hm3 (fun h => h))
        have HQ3 := Lib.hid hr3
        obtain ⟨hx3, hl3⟩ := RLAT.out _ _ HM3.out
        have CA := Lib.hid (P.add w3 K3 1 p HdSpec.new M Am M.length cm HP3.out hx3 (hl3.widen (by rintro q rfl; decide)) (by have := HTOT.out; omega))
        rw [HE.out.1] at CA
        clear CN2 hr3 hm3 HM2 HR2 hx3 hl3
        go_wp2_with fail
        refine CA.out.mono ?_
        rintro e w4 ⟨rfl, K4, hr4, hm4⟩
        have HM4 := Lib.hid (HM3.out.trans (hm4.widen (S' := fun x => x = 1 ∨ x = 2) (fun _ h => .inl h)))
        have HP4 := Lib.hid hr4
        have HQ4 := Lib.hid (P.mo HQ3.out hm4 (by decide))
        obtain ⟨hx4, hl4⟩ := RLAT.out _ _ HM4.out
        have CB := Lib.hid (P.add w4 K4 2 q HdSpec.new (M.take k) Am k cm HQ4.out (rl_take hx4 hk2) ((lies_take hl4 k).widen (by rintro q rfl; decide)) (Nat.le_trans (total_take M k) (by have := HTOT.out; omega)))
        rw [HT1.out, HE.out.2.1] at CB
        clear CA hr4 hm4 HM3 HP3 HQ3 hx4 hl4
        go_wp2_with fail
        refine CB.out.mono ?_
        rintro e w5 ⟨rfl, K5, hr5, hm5⟩
        have HM5 := Lib.hid (HM4.out.trans (hm5.widen (S' := fun x => x = 1 ∨ x = 2) (fun _ h => .inr h)))
        have HP5 := Lib.hid (P.mo HP4.out hm5 (by decide))
        have HQ5 := Lib.hid hr5
        have CADD : Hid (∀ A' n' c', Rl w5 A' n' c' (M.drop k) → Lies K5 (fun x => x = 0) A' (M.drop k) → Calls Tryz.prog 11 #[.pointer (some ⟨q, 0, .none⟩), .slice A' n' c'] w5 fun e w' => e = .returned (.int .i64 0) ∧ HPost HeadR w5 K5 2 q (add (add HdSpec.new ((recsOf M).take k)) ((recsOf M).drop k)) w') := Lib.hid (fun A' n' c' h1 h2 => by
          have h3 := P.add w5 K5 2 q _ (M.drop k) A' n' c' HQ5.out h1 (h2.widen (by rintro q rfl; decide)) (by
            have h1 := total_drop M k
            have h2 := HTOT.out
            omega)
          rw [HT2.out, HE.out.2.2] at h3
          exact h3)
        have HX0 := Lib.hid (RLAT.out _ _ HM5.out)
        generalize hS : add HdSpec.new (recsOf M) = S at *
        generalize hS2 : add (add HdSpec.new ((recsOf M).take k)) ((recsOf M).drop k) = S2 at *
        clear hS hS2 CB hr5 hm5 HM4 HP4 HQ4 HE
        by_cases hkn : k < M.length
        case' pos =>
          have hcj : ¬ cm = k := by omega
          obtain ⟨b3, o3, e3, _, _⟩ := HRL.out.1.rd (by rw [flatR_len]; omega)
          subst e3
          have HX := Lib.hid (both_drop HX0.out k)
          go_wp2_with fail
          refine (CADD.out _ _ _ HX.out.1 HX.out.2).mono ?_
        case' neg =>
          have hsub : M.length - k = 0 := by omega
          have HX : Hid (∀ A' c', c' ≤ maxLen → Rl w5 A' 0 c' (M.drop k) ∧ Lies K5 (fun x => x = 0) A' (M.drop k)) := Lib.hid (fun A' c' hc' => by rw [List.drop_eq_nil_of_le (by omega)]; exact ⟨rl_none A' hc', lies_none A'⟩)
          by_cases hcj : cm = k
          case' pos => obtain rfl : k = cm := hcj.symm
          all_goals
            go_wp2_with fail
            refine (CADD.out _ _ _ (HX.out _ _ (by unfold maxLen; omega)).1 (HX.out _ _ (by unfold maxLen; omega)).2).mono ?_
        all_goals
          rintro e w6 ⟨rfl, K6, hr6, hm6⟩
          have HM6 := Lib.hid (HM5.out.trans (hm6.widen (S' := fun x => x = 1 ∨ x = 2) (fun _ h => .inr h)))
          have HP6 := Lib.hid (P.mo HP5.out hm6 (by decide))
          have HQ6 := Lib.hid hr6
          clear hr6 hm6 HM5 HP5 HQ5 CADD HX HX0 hcj hkn
          have CL := Lib.hid (P.all w6 K6 1 p 3 S HP6.out (by decide))
          go_wp2_with fail
          refine CL.out.mono ?_
          rintro e w7 ⟨v7, ms7, K7, rfl, hms7, hres7, hr7, hm7⟩
          obtain ⟨A7, c7, rfl, _, _⟩ := hres7.rl
          have h7 : ms7.length = M.length := by rw [← recs_len ms7, hms7]; unfold HdSpec.all; rw [sortR_len, HS1.out, recs_len]
          have hm7' := congrArg List.length hms7
          have HMS7 : Hid (recsOf ms7 = sortR (recsOf M)) := Lib.hid (by rw [hms7]; unfold HdSpec.all; rw [HS1.out])
          have H7 := Lib.hid h7
          rw [h7]
          have HM7 := Lib.hid (HM6.out.trans (hm7.widen (S' := fun x => x = 1 ∨ x = 2) (fun _ h => .inl h)))
          have HP7 := Lib.hid hr7
          have HQ7 := Lib.hid (P.mo HQ6.out hm7 (by decide))
          have HRES7 := Lib.hid hres7
          have CG := Lib.hid (P.all w7 K7 2 q 4 S2 HQ7.out (by decide))
          clear CL hms7 hres7 hr7 hm7 h7 hm7' HM6 HP6 HQ6
          go_wp2_with fail
          refine CG.out.mono ?_
          rintro e w8 ⟨v8, ms8, K8, rfl, hms8, hres8, hr8, hm8⟩
          have hres78 := HRES7.out.mo hm8 (by decide)
          obtain ⟨A8, c8, rfl, hrl8, _⟩ := hres8.rl
          obtain ⟨A7', c7', e7, hrl7, _⟩ := hres78.rl
          cases e7
          have CS := Lib.hid (rsamea_any w8 ms7 ms8 A7 A8 ms7.length ms8.length c7 c8 hrl7 hrl8)
          rw [show eqA (recsOf ms7) (recsOf ms8) = true by rw [HMS7.out, hms8]; unfold HdSpec.all; rw [HS2.out]; exact eqA_self _, H7.out] at CS
          have HM8 := Lib.hid (HM7.out.trans (hm8.widen (S' := fun x => x = 1 ∨ x = 2) (fun _ h => .inr h)))
          have HP8 := Lib.hid (P.mo HP7.out hm8 (by decide))
          have HQ8 := Lib.hid hr8
          have HRES8 := Lib.hid hres78
          clear CG hms8 hres8 hr8 hm8 hres78 hrl8 hrl7 HM7 HP7 HQ7 HRES7
          go_wp2_with fail
          refine CS.out.mono ?_
          rintro e w9 ⟨rfl, hb9⟩
          have HM9 := Lib.hid (HM8.out.call hb9)
          have HP9 := Lib.hid (P.below HP8.out hb9)
          have HQ9 := Lib.hid (P.below HQ8.out hb9)
          have HRES9 := Lib.hid (HRES8.out.mo (Mo.same (S := fun _ => False) hb9) (fun h => h))
          have HF : Hid (HdSpec.find (HdSpec.all S) t = HdSpec.find (sortR (recsOf M)) t) := Lib.hid (by unfold HdSpec.all; rw [HS1.out])
          have HF2 : Hid (HdSpec.find (HdSpec.all S2) t = HdSpec.find (sortR (recsOf M)) t) := Lib.hid (by unfold HdSpec.all; rw [HS2.out])
          have CF := Lib.hid (P.find w9 K8 1 p 5 S t HP9.out (by decide) (by unfold maxLen; omega))
          rw [HF.out] at CF
          have HFL : Hid ((HdSpec.find (sortR (recsOf M)) t).length ≤ 65536) := Lib.hid (by
            have h1 := findTo_len (sortR (recsOf M)) t (sortR (recsOf M)).length
            have h2 : (sortR (recsOf M)).length = M.length := by rw [sortR_len, recs_len]
            have h3 : HdSpec.find (sortR (recsOf M)) t = findTo (sortR (recsOf M)) t (sortR (recsOf M)).length := rfl
            rw [h3]
            omega)
          clear CS hb9 HM8 HP8 HQ8 HRES8
          go_wp2_with fail
          refine CF.out.mono ?_
          rintro e w10 ⟨A10, c10, K10, rfl, hc10, hcm10, hrd10, hk10, hr10, hm10⟩
          have HM10 := Lib.hid (HM9.out.trans (hm10.widen (S' := fun x => x = 1 ∨ x = 2) (fun _ h => .inl h)))
          have HP10 := Lib.hid hr10
          have HQ10 := Lib.hid (P.mo HQ9.out hm10 (by decide))
          have HRES10 := Lib.hid (HRES9.out.mo hm10 (by decide))
          have HRD10 := Lib.hid hrd10
          have HK10 := Lib.hid hk10
          have CH := Lib.hid (P.find w10 K10 2 q 6 S2 t HQ10.out (by decide) (by unfold maxLen; omega))
          rw [HF2.out] at CH
          clear CF hrd10 hk10 hr10 hm10 HM9 HP9 HQ9 HRES9
          go_wp2_with fail
          refine CH.out.mono ?_
          rintro e w11 ⟨A11, c11, K11, rfl, hc11, hcm11, hrd11, _, hr11, hm11⟩
          have HM11 := Lib.hid (HM10.out.trans (hm11.widen (S' := fun x => x = 1 ∨ x = 2) (fun _ h => .inr h)))
          have HP11 := Lib.hid (P.mo HP10.out hm11 (by decide))
          have HRES11 := Lib.hid (HRES10.out.mo hm11 (by decide))
          have hrd10' := (rd_mo hm11 HRD10.out (fun b off e hn => by rw [HK10.out b off e (by simpa using hn)]; decide)).1
          have CS2 := Lib.hid (Need.same_eq (HdSpec.find (sortR (recsOf M)) t) A10 A11 _ _ c10 c11 w11 _ _ rfl rfl hrd10' hrd11 (by have := HFL.out; unfold maxLen; omega))
          clear CH hrd11 hr11 hm11 hrd10' HM10 HP10 HQ10 HRES10 HRD10 HK10
          go_wp2_with fail
          refine CS2.out.mono ?_
          rintro e w12 ⟨rfl, nq, rfl⟩
          obtain ⟨w12, hw12⟩ : ∃ w12, w11.drewN nq = w12 := ⟨_, rfl⟩
          have HM12 : Hid (Mo (fun _ => 0) K11 (fun x => x = 1 ∨ x = 2) wm w12) := Lib.hid (hw12 ▸ HM11.out.drew nq)
          have hb12 : Below w11.heap.size w11 (w11.drewN nq) := ⟨rfl, rfl, rfl, Nat.le_refl _, fun _ _ => rfl⟩
          have HP12 := Lib.hid (P.below HP11.out hb12)
          have HRES12 := Lib.hid (HRES11.out.mo (Mo.same (S := fun _ => False) hb12) (fun h => h))
          rw [hw12] at HP12 HRES12 ⊢
          clear CS2 hb12 hw12 HM11 HP11 HRES11
          have hbm : Below wm.heap.size wm w12 := HM12.out.below (Nat.le_refl _) (fun i _ => by decide)
          have HKOLD : Hid (∀ i, i < wm.heap.size → K11 i = 0 ∨ False) := Lib.hid (fun i hi => .inl ((HM12.out.keep i hi (by decide)).2))
          have HBM : Hid (Below w.heap.size w w12) := Lib.hid (HB.out.trans (hbm.mono HB.out.size))
          have HRL7 : Hid (Rl w12 A7 M.length c7 ms7) := Lib.hid (by
            obtain ⟨A7', c7', e7, hrl7, _⟩ := HRES12.out.rl
            cases e7
            rw [H7.out] at hrl7
            exact hrl7)
          obtain ⟨L, hL⟩ : ∃ L, sortR (recsOf M) = L := ⟨_, rfl⟩
          have hLl : L.length = M.length := by rw [← hL, sortR_len, recs_len]
          have HSTR : Hid (∀ i (hi : i + 1 < L.length), cmpR (L[i]'(by omega)) L[i + 1] < 0) := Lib.hid (by subst hL; exact fun i hi => sort_strict HRISE.out hi)
          have HLM : Hid (∀ i (hi : i < M.length) (hi2 : i < ms7.length) (hi3 : i < L.length), (ms7[i]).1 = L[i]) := Lib.hid (fun i hi hi2 hi3 => by
            have h1 := HMS7.out
            rw [hL] at h1
            subst h1
            simp [recsOf])
          have HSZ : Hid (∀ r ∈ L, sizeR r ≤ 1048576) := Lib.hid (fun r hr => by
            rw [← hL] at hr
            obtain ⟨m, hm, rfl⟩ := List.mem_map.1 ((sortR_perm _).mem_iff.1 hr)
            exact Nat.le_trans (size_mem hm) HTOT.out)
          have HFD : Hid (HdSpec.find L t = findTo L t M.length) := Lib.hid (by rw [← hLl]; rfl)
          have HFS : Hid (HdSpec.find (HdSpec.all S) t = HdSpec.find L t) := Lib.hid (by rw [← hL, HF.out])
          have HLL := Lib.hid hLl
          have HM7L := Lib.hid H7.out
          obtain ⟨hc7a, hc7b⟩ : M.length ≤ c7 ∧ c7 ≤ 9223372036854775807 := ⟨HRL7.out.le, HRL7.out.cap⟩
          clear hL hLl hbm HM12 HRES12 HMS7 HF HF2 H7 HS1 HS2
          go_wp2
          go_loopw [14, 15] (fun vw vi wr => WRel w12 L t M.length vw vi wr) (fun _ vi _ => M.length - (intOf vi).toNat)
          case atStart => exact ⟨0, Nat.zero_le _, rfl, Lib.hid (World.ownsRow_nil ..), Lib.hid (Below.refl _ _)⟩
          case round =>
            obtain ⟨i, hi, rfl, HW, HBW⟩ := hrel
            by_cases hlt : i < M.length
            · have hi7 : i < ms7.length := by rw [HM7L.out]; exact hlt
              have hiL : i < L.length := by rw [HLL.out]; exact hlt
              by_cases hi0 : i = 0
              case' pos =>
                have d1 : decide (0 < (i : Int)) = false := by simp; omega
                have d2 : decide (0 < i) = false := by simp; omega
                have d3 : ¬ 0 < i := by omega
                have d4 : ¬ (0 : Int) < (i : Int) := by omega
                clear hi0
                go_wp2
                go_quiet (fail)
                obtain ⟨wx, hwx⟩ : ∃ wx, wr.drewN nq = wx := ⟨_, rfl⟩
                have HWx := Lib.hid (show (wr.drewN nq).ownsRow w12.heap.size 44 1 _ _ _ from HW.out)
                have HBx := Lib.hid (drewN_to HBW.out nq)
                rw [hwx] at HWx HBx ⊢
                clear hwx HW HBW d1 d2 d3 d4
              case' neg =>
                obtain ⟨j, hij⟩ : ∃ j, i = j + 1 := ⟨i - 1, by omega⟩
                have hj7 : j < ms7.length := by omega
                have hjL : j < L.length := by omega
                have hrlw := HRL7.out.below HBW.out
                obtain ⟨b5, o5, e5, _, hc5⟩ := hrlw.rd (by rw [flatR_len]; omega)
                subst e5
                obtain ⟨y0, y1, y2, y3⟩ := cellsR hc5 hj7
                obtain ⟨x0, x1, x2, x3⟩ := cellsR hc5 hi7
                have CC := Lib.hid (fun w (h1 : Okm w (ms7[j]'hj7)) (h2 : Okm w (ms7[i]'hi7)) => P.compare w (ms7[j]'hj7) (ms7[i]'hi7) h1 h2)
                have hokj := hrlw.each _ (List.getElem_mem hj7)
                have hoki := hrlw.each _ (List.getElem_mem hi7)
                have hq : cmpR (ms7[j]).1 (ms7[i]).1 < 0 := by
                  rw [HLM.out j (by omega) hj7 hjL, HLM.out i hlt hi7 hiL]
                  subst hij
                  exact HSTR.out j hiL
                have HOKJ := Lib.hid hokj
                have HOKI := Lib.hid hoki
                generalize ms7[j] = ma at *
                generalize hmi : ms7[i] = mi at *
                obtain ⟨⟨ta, sa, la, na⟩, Aa, na', ca⟩ := ma
                obtain ⟨⟨tb, sb, lb, nb⟩, Ab, nb', cb⟩ := mi
                unfold slV at y2 x2
                unfold aggR slV S8 at CC
                simp only at y0 y1 y2 y3 x0 x1 x2 x3 CC hq
                have r0 : IntKind.i64.wrap (j : Int) = (j : Int) := by rw [IntKind.wrap_i64]; omega
                have r9 : IntKind.i64.wrap (i : Int) = (i : Int) := by rw [IntKind.wrap_i64]; omega
                have r1 : (i : Int) - 1 = (j : Int) := by omega
                have r2 : (0 : Int) < (i : Int) := by omega
                have r7 : 0 < i := by omega
                have r3 : (j : Int) < (M.length : Int) := by omega
                have r4 : (0 : Int) ≤ (j : Int) := by omega
                have r5 : (0 : Int) ≤ (i : Int) := by omega
                have r6 : (i : Int) < (M.length : Int) := by omega
                generalize cmpR ⟨ta, sa, la, na⟩ ⟨tb, sb, lb, nb⟩ = q9 at *
                clear hc5 hij hrlw hokj hoki hmi hi0
                go_wp2
                refine wp_region_still_tail 12 (by kernel_rfl) (by kernel_rfl) ?_
                simp only [List.take_succ_cons, List.take_zero, List.drop_succ_cons, List.drop_zero]
                iterate 12 (refine wpStill_step (fun K hK => ?_); go_simp; refine hK _ ?_; clear hK K)
                refine wpStill_nil ?_
                change wpList _ _ _ _ _ wr.drew
                go_wp2_with fail
                refine (CC.out wr.drew (HOKJ.out.below ⟨rfl, rfl, rfl, Nat.le_refl _, fun _ _ => rfl⟩) (HOKI.out.below ⟨rfl, rfl, rfl, Nat.le_refl _, fun _ _ => rfl⟩)).mono ?_
                rintro e wx ⟨rfl, hb5⟩
                have HWx := Lib.hid (UtOwn.own_keep (w := wr.drew) HW.out hb5)
                have HBx : Hid (Below w12.heap.size w12 wx) := Lib.hid ((below_drew1 HBW.out).trans (hb5.mono HBW.out.size))
                have d1 : decide ((0 : Int) ≤ q9) = false := decide_eq_false (by omega)
                clear hb5 CC x0 x1 x2 x3 y0 y1 y2 y3 r0 r9 r1 r3 r4 r5 r6 r2 r7 HOKJ HOKI HW HBW
              all_goals
                have hrlx := HRL7.out.below HBx.out
                obtain ⟨b6, o6, e6, _, hc6⟩ := hrlx.rd (by rw [flatR_len]; omega)
                first | subst e6 | clear e6
                obtain ⟨b7, o7, e7, _, hc7⟩ := hrlx.rd (by rw [flatR_len]; omega)
                cases e7
                obtain ⟨u0, u1, u2, u3⟩ := cellsR hc7 hi7
                have hmL := HLM.out i hlt hi7 hiL
                have CT := Lib.hid (P.termsO wx ms7[i] (hrlx.each _ (List.getElem_mem hi7)) (by rw [hmL]; exact Nat.le_trans (HSZ.out _ (List.getElem_mem hiL)) (by omega)))
                have HTI : Hid (terms (L.getD i RcSpec.none) = terms (ms7[i]).1) := Lib.hid (by rw [hmL, List.getD_eq_getElem?_getD, List.getElem?_eq_getElem hiL]; rfl)
                have HRI := Lib.hid (rises_once (termsL (ms7[i]).1))
                have HTD : Hid (terms (ms7[i]).1 = once (termsL (ms7[i]).1)) := Lib.hid rfl
                rw [← HTD.out] at HRI
                unfold OPost at CT
                have hYES := findTo_yes (l := L) (t := t) (k := i)
                have hNO := findTo_no (l := L) (t := t) (k := i)
                rw [HTI.out] at hYES hNO
                have hfl := findTo_len L t i
                generalize terms (ms7[i]).1 = T at *
                generalize ms7[i] = m at *
                obtain ⟨⟨tm, sm, lm, nm⟩, Ax, nx, cx⟩ := m
                unfold slV at u2
                unfold aggR slV S8 at CT
                simp only at u0 u1 u2 u3 CT
                have HYES := Lib.hid hYES
                have HNO := Lib.hid hNO
                clear hrlx hc6 hc7 hmL HTI HTD hYES hNO
                have hfx : (findTo L t i).length ≤ 65536 := by omega
                generalize findTo L t i = F at *
                go_wp2_with fail
                refine CT.out.mono ?_
                rintro e w20 ⟨v20, rfl, hown20, hb20⟩
                obtain ⟨A20, c20, rfl, hc20, hcm20, _⟩ := UtOwn.own_slice hown20
                have HW20 := Lib.hid (UtOwn.own_keep HWx.out hb20)
                have HB20 : Hid (Below w12.heap.size w12 w20) := Lib.hid (HBx.out.trans (hb20.mono HBx.out.size))
                have HG0 : Hid (w20.ownsRow w12.heap.size 44 1 _ (got F T t i 0).length ((got F T t i 0).map B64)) := Lib.hid (by simpa [got] using HW20.out)
                have HRD : Hid (Rd w20 w20.heap.size A20 (T.map S8) ∧ ∀ b off, A20 = some ⟨b, off, .none⟩ → 0 < T.length → Value.ownBlock _ ≠ some b) := Lib.hid ⟨Rd.of_own hown20, fun b off e hn e2 => by
                  have h1 := (HWx.out.lt b e2).2
                  subst e
                  have h2 := (hown20.lt b rfl).1
                  omega⟩
                obtain ⟨hc20a, hc20b⟩ : T.length ≤ c20 ∧ c20 ≤ 9223372036854775807 := ⟨hc20, hcm20⟩
                clear CT hown20 hb20 HWx HBx HW20 u0 u1 u2 u3 hc20 hcm20
                go_wp2
                go_loopw [14, 17] (fun vw vj wr => VRel w12 F T t i A20 vw vj wr) (fun _ vj _ => T.length - (intOf vj).toNat)
                case atStart => exact ⟨0, Nat.zero_le _, rfl, HG0, HB20, HRD⟩
                case round =>
                  clear HG0 HB20 HRD
                  obtain ⟨j, hj, rfl, HG, HBj, HRDj⟩ := hrel
                  by_cases hjt : j < T.length
                  · obtain ⟨b8, o8, e8, _, hc8⟩ := HRDj.out.1 (by simp; omega)
                    subst e8
                    have hx1 := cellS hc8 hjt
                    have HXE : Hid (T[j]? = some T[j]) := Lib.hid (List.getElem?_eq_getElem hjt)
                    have HGY := Lib.hid (fun e => got_yes (F := F) (i := i) (t := t) HRI.out hjt e)
                    have HGN := Lib.hid (fun e => got_no (F := F) (T := T) (i := i) (t := t) hjt e)
                    by_cases e : T[j] = t
                    case' pos =>
                      have e1 : (T[j] == t) = true := by simp [e]
                      obtain ⟨g1, g2⟩ := HGY.out e
                      have HG2 := Lib.hid g2
                      have HG1 := HG.out
                      rw [g1] at HG1
                      have HGF := Lib.hid HG1
                      have hwi : IntKind.u64.wrap (i : Int) = (i : Int) := by rw [IntKind.wrap_u64]; omega
                      have hMi := Lib.hid (Rd.made wr #[.int .u64 (i : Int)] 44)
                      have hsw := HBj.out.size
                      generalize T[j] = x at *
                      clear g1 g2 HG1 HG HGY HGN hc8 e
                      go_wp2_with (at_builtin; refine App.wpList_append_rd _ rfl (.tmp 135) (.tmp 138) 39 rfl w12.heap.size 44 i2 (.int .u64 0) 8 Tryz.underlying39 ui uz0 uz1 uz2 rfl _ _ _ rfl (HGF.out.alloc _) (wr.heap.size + 1) (some ⟨wr.heap.size, 0, .none⟩) 1 1 [.int .u64 (i : Int)] rfl rfl hMi.out (by intro u hu; simp at hu; subst hu; rfl) (by unfold maxLen; omega) (by omega) (by simp; omega) ?_)
                      intro vz wz hownz hgz hvz
                      have HOz : Hid (wz.ownsRow w12.heap.size 44 1 vz (got F T t i (j + 1)).length ((got F T t i (j + 1)).map B64)) := Lib.hid (by
                        rw [HG2.out, List.length_append, List.map_append]
                        have e9 : B64 (UInt64.ofNat i) = .int .u64 (i : Int) := by unfold B64; rw [UInt64.toNat_ofNat_of_lt' (by show i < 2 ^ 64; omega)]
                        rw [show [UInt64.ofNat i].map B64 = [.int .u64 (i : Int)] by rw [List.map_cons, e9]; rfl]
                        exact hownz)
                      have HBz : Hid (Below w12.heap.size w12 wz) := Lib.hid ((HBj.out.alloc hsw _).grown hgz (by simp; omega) (fun g h => (HGF.out.lt g h).1))
                      have hwz : wr.heap.size ≤ wz.heap.size := Nat.le_trans (by simp) hgz.size
                      have HRDz : Hid (Rd wz wz.heap.size (some ⟨b8, o8, .none⟩) (T.map S8) ∧ ∀ b off, some (⟨b8, o8, .none⟩ : Addr) = some ⟨b, off, .none⟩ → 0 < T.length → vz.ownBlock ≠ some b) := Lib.hid (by
                        have hn := HRDj.out.2 b8 o8 rfl (by omega)
                        have hb8 : b8 < wr.heap.size := by
                          obtain ⟨b', o', e', hb', _⟩ := HRDj.out.1 (by simp; omega)
                          cases e'
                          exact hb'
                        refine ⟨((HRDj.out.1.alloc (Nat.le_refl _) _).grownBy hgz (by simp) (fun b off e h => ?_)).more hwz, fun b off e hn2 h => ?_⟩
                        · cases e
                          exact hn h.symm
                        · cases e
                          rcases hvz with h1 | h1
                          · exact hn (h1.symm.trans h)
                          · rw [h1] at h
                            simp at h
                            omega)
                      clear hownz hgz hvz HG2 HGF hMi HBj HRDj hsw hwz hx1
                    case' neg =>
                      have e1 : (T[j] == t) = false := by simp [e]
                      have HOz : Hid (wr.ownsRow w12.heap.size 44 1 _ (got F T t i (j + 1)).length ((got F T t i (j + 1)).map B64)) := Lib.hid (by rw [HGN.out e]; exact HG.out)
                      have HBz := HBj
                      have HRDz := HRDj
                      obtain ⟨wz, hwz⟩ : ∃ wz, wz = wr := ⟨_, rfl⟩
                      subst hwz
                      generalize T[j] = x at *
                      clear HG HGY HGN hc8 e
                    all_goals
                      have hxe : T[j] = x := by
                        have h1 := HXE.out
                        rw [List.getElem?_eq_getElem hjt] at h1
                        exact Option.some.inj h1
                      by_cases hj0 : j = 0
                      · have d1 : decide (0 < (j : Int)) = false := by simp; omega
                        have d2 : decide (0 < j) = false := by simp; omega
                        have d3 : ¬ 0 < j := by omega
                        have d4 : ¬ (0 : Int) < (j : Int) := by omega
                        clear hj0 hxe
                        go_wp2
                        go_quiet (fail)
                        go_wp2
                        go_roundw
                        case rel => exact ⟨j + 1, by omega, by go_num, HOz, Lib.hid (drewN_to HBz.out _), HRDz⟩
                        case measure => simp [intOf]; omega
                      · obtain ⟨i', hji⟩ : ∃ i', j = i' + 1 := ⟨j - 1, by omega⟩
                        have hit : i' < T.length := by omega
                        obtain ⟨b9, o9, e9, _, hc9⟩ := HRDz.out.1 (by simp; omega)
                        cases e9
                        have p1 := cellS hc9 hit
                        have p2 := cellS hc9 hjt
                        rw [hxe] at p2
                        have hls : less T[i'] x = true := by
                          have h1 := List.pairwise_iff_getElem.1 HRI.out i' j hit hjt (by omega)
                          rwa [hxe] at h1
                        have hne : T[i'] ≠ x := fun e => by rw [e, less_irrefl] at hls; cases hls
                        generalize T[i'] = y at *
                        have f1 : Op.bytesLess y x = true := by rw [less_is]; exact hls
                        have f2 : Op.bytesLess x y = false := by
                          rw [less_is]
                          cases h : less x y with
                          | false => rfl
                          | true => have := less_trans hls h; rw [less_irrefl] at this; cases this
                        have f3 : (x == y) = false := beq_eq_false_iff_ne.2 (fun e => hne e.symm)
                        have f4 : (y == x) = false := beq_eq_false_iff_ne.2 hne
                        have r1 : (j : Int) - 1 = (i' : Int) := by omega
                        have r2 : (0 : Int) < (j : Int) := by omega
                        have r3 : 0 < j := by omega
                        have r4 : (0 : Int) ≤ (i' : Int) := by omega
                        have r5 : (i' : Int) < (T.length : Int) := by omega
                        have r6 : (j : Int) < (T.length : Int) := by omega
                        have r7 : (0 : Int) ≤ (j : Int) := by omega
                        have r8 : IntKind.i64.wrap (i' : Int) = (i' : Int) := by rw [IntKind.wrap_i64]; omega
                        have r9 : IntKind.i64.wrap (j : Int) = (j : Int) := by rw [IntKind.wrap_i64]; omega
                        clear hji hc9 hxe hls hne hj0 hit
                        go_wp2
                        go_quiet (fail)
                        go_wp2
                        go_roundw
                        case rel => exact ⟨j + 1, by omega, by go_num, HOz, Lib.hid (drewN_to HBz.out _), HRDz⟩
                        case measure => simp [intOf]; omega
                  · obtain rfl : j = T.length := by omega
                    have HEND : Hid (findTo L t (i + 1) = got F T t i T.length) := Lib.hid (by
                      rw [got_end]
                      by_cases h : t ∈ T
                      · rw [if_pos h]; exact HYES.out h
                      · rw [if_neg h]; exact HNO.out h)
                    rw [← HEND.out] at HG
                    clear HYES HNO HRDj HEND
                    go_wp2
                    exact ⟨⟨i + 1, by omega, by go_num, HG, HBj⟩, by simp [intOf]; omega⟩
            · obtain rfl : i = M.length := by omega
              have hmf : Mo K11 (kmark K11 w12.heap.size 0) (fun _ => False) w12 wr := Mo.new HBW.out 0
              have CF := Lib.hid (P.find wr (kmark K11 w12.heap.size 0) 1 p 7 S t (P.mo HP12.out hmf (fun h => h)) (by decide) (by unfold maxLen; omega))
              rw [HFS.out, HFD.out] at CF
              have HFL9 : Hid ((findTo L t M.length).length ≤ 65536) := Lib.hid (Nat.le_trans (findTo_len L t M.length) (by omega))
              have HBF : Hid (Below w.heap.size w wr) := Lib.hid (HBM.out.trans (HBW.out.mono HBM.out.size))
              generalize findTo L t M.length = F9 at *
              obtain ⟨Aw, cw, rfl, hcw, hcmw, _⟩ := UtOwn.own_slice HW.out
              clear hmf
              go_wp2_with fail
              refine CF.out.mono ?_
              rintro e w30 ⟨A30, c30, K30, rfl, hc30, hcm30, hrd30, _, hr30, hm30⟩
              have hw30 := (own_mo HW.out (fun q hq => kmark_new ((HW.out.lt q hq).1)) hm30 (by decide)).1
              have CS3 := Lib.hid (Need.same_eq F9 A30 Aw _ _ c30 cw w30 _ _ rfl rfl hrd30 (Rd.of_own hw30) (by have := HFL9.out; unfold maxLen; omega))
              have HBG : Hid (Below w.heap.size w w30) := Lib.hid (HBF.out.trans ((hm30.below (B := w.heap.size) HBF.out.size (fun i hi => by
                have h1 := HBM.out.size
                rw [kmark_old (by omega)]
                have h2 := HKOLD.out i (Nat.lt_of_lt_of_le hi HB.out.size)
                rcases h2 with h2 | h2
                · rw [h2]; decide
                · exact absurd h2 (by simp)))))
              clear CF hrd30 hr30 hm30 hw30
              go_wp2_with fail
              refine CS3.out.mono ?_
              rintro e w31 ⟨rfl, nq, rfl⟩
              go_wp2
              go_ret
              exact ⟨rfl, drewN_to HBG.out nq⟩
end Go.Proofs.YtkgmcabamhpjhaaGreat.HdFindsW
