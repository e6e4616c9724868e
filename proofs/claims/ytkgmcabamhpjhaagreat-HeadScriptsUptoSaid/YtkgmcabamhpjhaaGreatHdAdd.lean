/- The contract of the document's Add: what it refuses, and the head behind it. Conditions: the records lie in memory that came in. -/
import Derived.Test.YtkgmcabamhpjhaaGreatHdSorts
import Derived.Test.YtkgmcabamhpjhaaGreatHdCheck
import Derived.Test.YtkgmcabamhpjhaaGreatHdTermsF
import Derived.Deep.RegionLaw
import Derived.BigQuiet
namespace Go.Proofs.YtkgmcabamhpjhaaGreat.HdAdd
open Go Go.RowKit Words AppN Less LbSpec LbMem LbRef RcSpec RcAll RcMem RcRef HdSpec HdRm HdMem HdKm HdLaw HdSort HdRef HdCheck UtOwn Km

/-! ### Plain -/
def seqAt (l : List Rec) (i : Nat) : Nat := (l.getD i RcSpec.none).seq
theorem seqAt_eq {l : List Rec} {i : Nat} (hi : i < l.length) : seqAt l i = l[i].seq := by unfold seqAt; rw [List.getD_eq_getElem?_getD, List.getElem?_eq_getElem hi]; rfl
theorem bad_of {s : Option Nat} {l : List Rec} {i : Nat} (hi : i < l.length) (h : (∃ y, s = some y ∧ seqAt l i ≤ y) ∨ (0 < i ∧ seqAt l i ≤ seqAt l (i - 1))) : bad s l = true := by
  cases hb : bad s l with
  | true => rfl
  | false =>
    obtain ⟨h1, h2⟩ := rise hb
    rw [seqAt_eq hi] at h
    rcases h with ⟨y, e, h⟩ | ⟨h0, h⟩
    · have := h1 l[i] (List.getElem_mem hi) y e
      omega
    · have h3 := List.pairwise_iff_getElem.1 h2 (i - 1) i (by omega) hi (by omega)
      rw [seqAt_eq (show i - 1 < l.length by omega)] at h
      omega
theorem not_bad {s : Option Nat} {l : List Rec} (h : ∀ i, i < l.length → (∀ y, s = some y → y < seqAt l i) ∧ (0 < i → seqAt l (i - 1) < seqAt l i)) : bad s l = false := by
  rw [Bool.eq_false_iff]
  intro hb
  obtain ⟨i, hi, hc⟩ := (bad_iff s l).1 hb
  obtain ⟨h1, h2⟩ := h i hi
  rw [seqAt_eq hi] at h1 h2
  split at hc
  · cases s with
    | none => simp [notMore] at hc
    | some y =>
      have := h1 y rfl
      simp [notMore] at hc
      omega
  · have := h2 (by omega)
    unfold seqAt at this
    omega
theorem firstBad_ok {l : List Rec} {k : Nat} (h : k < l.length) (hc : check l[k] = 0) : firstBad (l.drop k) = firstBad (l.drop (k + 1)) := by
  rw [List.drop_eq_getElem_cons h, firstBad, if_pos hc]
theorem firstBad_err {l : List Rec} {k : Nat} (h : k < l.length) (hc : check l[k] ≠ 0) : firstBad (l.drop k) = check l[k] := by
  rw [List.drop_eq_getElem_cons h, firstBad, if_neg hc]
theorem recs_at {ms : List RM} {k : Nat} (h : k < ms.length) : (recsOf ms)[k]'(by rw [recs_len]; exact h) = (ms[k]).1 := by simp [recsOf]
theorem recs_getD {ms : List RM} {k : Nat} (h : k < ms.length) : (recsOf ms).getD k RcSpec.none = (ms[k]).1 := by simp [recsOf, List.getD, h]
theorem recs_take {ms : List RM} {k : Nat} : recsOf (ms.take k) = (recsOf ms).take k := by simp [recsOf, List.map_take]
theorem recs_snoc {ms : List RM} {k : Nat} (h : k < ms.length) : (recsOf ms).take (k + 1) = (recsOf ms).take k ++ [(ms[k]).1] := by
  rw [List.take_succ_eq_append_getElem (by rw [recs_len]; exact h), recs_at h]

/-- Nothing is added. -/
def Quit (w : World) (K : Nat → Nat) (o p : Nat) (h : HSt) (R : Nat) (e : Ending) (w' : World) : Prop := e = .returned (.int .i64 (R : Int)) ∧ ∃ K', RefR w' K' o p h ∧ Mo K K' (fun x => x = o) w w'
theorem quit {w w' : World} {K : Nat → Nat} {o p R : Nat} {h : HSt} (hr : RefR w K o p h) (hb : Below w.heap.size w w') : Quit w K o p h R (.returned (.int .i64 (R : Int))) w' :=
  ⟨rfl, K, hr.mo (Mo.same (S := fun _ => False) hb) (fun h => h) (fun h => h), Mo.same hb⟩
def ARel (w : World) (xs : List RM) (v : Value) (wr : World) : Prop := ∃ k : Nat, k ≤ xs.length ∧ v = .int .i64 (k : Int) ∧ Hid (firstBad (recsOf xs) = firstBad ((recsOf xs).drop k)) ∧ Hid (Below w.heap.size w wr)
def BRel (w : World) (s : Option Nat) (xs : List RM) (v : Value) (wr : World) : Prop := ∃ k : Nat, k ≤ xs.length ∧ v = .int .i64 (k : Int) ∧
  Hid (∀ i, i < (recsOf xs).length → i < k → (∀ y, s = some y → y < seqAt (recsOf xs) i) ∧ (0 < i → seqAt (recsOf xs) (i - 1) < seqAt (recsOf xs) i)) ∧ Hid (Below w.heap.size w wr)
def CRel (w : World) (K : Nat → Nat) (o p : Nat) (h : HSt) (xs : List RM) (v : Value) (wr : World) : Prop := ∃ k : Nat, k ≤ xs.length ∧ v = .int .i64 (k : Int) ∧
  Hid (∃ Kr ms vr, RefB wr Kr o p (h.recs ++ (recsOf xs).take k) (lastOf h.last ((recsOf xs).take k)) ms vr ∧ Mo K Kr (fun x => x = o) w wr)
theorem drewN_below {w w' : World} {B : Nat} (h : Below B w w') (n : Nat) : Below B w (w'.drewN n) := ⟨h.os, h.tape, h.output, h.size, h.block⟩
theorem drew_below2 {w w' : World} {B : Nat} (h : Below B w w') : Below B w w'.drew := ⟨h.os, h.tape, h.output, h.size, h.block⟩

set_option maxHeartbeats 6400000 in
set_option maxRecDepth 100000 in
theorem radd_any (w : World) (K : Nat → Nat) (o p : Nat) (h : HSt) (xs : List RM) (A : Option Addr) (n c : Nat) (hr : RefR w K o p h) (ho : o ≠ 0) (hx : Rl w A n c xs) (hl : Lies K (fun x => x = 0) A xs) (hn : n ≤ 1099511627776) :
    Calls Tryz.prog 12 #[.pointer (some ⟨p, 0, .none⟩), .slice A n c] w (Quit w K o p (add h (recsOf xs)) (addE h (recsOf xs))) := by
  obtain ⟨i1, gi, gz0, gz1, gz2⟩ := info_parts info_record
  have HREF := Lib.hid hr
  have HX := Lib.hid hx
  have HLI := Lib.hid hl
  obtain ⟨rfl, hnc, hcm, _, _⟩ := hx
  obtain ⟨hg, ms, v, hb⟩ := hr
  have HRB := Lib.hid hb
  obtain ⟨R, hR⟩ : ∃ R, addE h (recsOf xs) = R := ⟨_, rfl⟩
  rw [hR]
  have HA := Lib.hid hR
  have HN : Hid (R ≠ 0 → add h (recsOf xs) = h) := Lib.hid (fun e => by unfold add; rw [if_neg (by rw [HA.out]; exact e)])
  have HE1 : Hid (firstBad (recsOf xs) ≠ 0 → R = firstBad (recsOf xs)) := Lib.hid (fun e => by rw [← HA.out]; unfold addE; rw [if_pos e])
  have hn0 := eq_some p 0
  have hrl : (recsOf xs).length = xs.length := recs_len xs
  have HRL := Lib.hid hrl
  have hms : ms.length ≤ 65536 := by
    have h1 := hg.few
    rw [← hb.recs, recs_len] at h1
    exact h1
  have hmsr : h.recs.length = ms.length := by rw [← hb.recs, recs_len]
  have HMSR := Lib.hid hmsr
  have hlt := hb.lt
  obtain ⟨Av, cv, rfl, _, _, _⟩ := own_row hb.own (flatR_len ms)
  unfold maxLen at hcm
  clear hR hb hg hrl hl hmsr
  go_enter Tryz.func12, Tryz.ntmps12
  go_wp2
  go_loopw [5] (fun vi wr => ARel w xs vi wr) (fun vi _ => xs.length - (intOf vi).toNat)
  case atStart => exact ⟨0, Nat.zero_le _, rfl, Lib.hid (by rw [List.drop_zero]), Lib.hid (Below.refl _ _)⟩
  case round =>
    obtain ⟨k, hk, rfl, HF, HB⟩ := hrel
    by_cases hkx : k < xs.length
    · obtain ⟨b1, o1, rfl, hbb, hc⟩ := HX.out.rd (by rw [flatR_len]; omega)
      obtain ⟨q0, q1, q2, q3⟩ := cellsR hc hkx
      have k0 := (HB.out.cell (p := ⟨b1, o1 + k * 4, .none⟩) hbb).trans q0
      have k1 := (HB.out.cell (p := ⟨b1, o1 + k * 4 + 1, .none⟩) hbb).trans q1
      have k2 := (HB.out.cell (p := ⟨b1, o1 + k * 4 + 2, .none⟩) hbb).trans q2
      have k3 := (HB.out.cell (p := ⟨b1, o1 + k * 4 + 3, .none⟩) hbb).trans q3
      have CH := Lib.hid (rcheck_any wr xs[k] ((HX.out.each _ (List.getElem_mem hkx)).below HB.out))
      have hxk : k < (recsOf xs).length := by rw [HRL.out]; exact hkx
      have HFO := Lib.hid (firstBad_ok hxk)
      have HFE := Lib.hid (firstBad_err hxk)
      rw [recs_at hkx] at HFO HFE
      unfold aggR slV S8 at CH
      unfold slV at k2
      generalize xs[k] = m at *
      obtain ⟨⟨tm, s, ls, ln⟩, Am, nm, cm⟩ := m
      simp only at CH k0 k1 k2 k3 HFO HFE
      generalize check ⟨tm, s, ls, ln⟩ = e at *
      clear hc q0 q1 q2 q3 hxk
      go_wp2_with fail
      refine CH.out.mono ?_
      rintro e9 w5 ⟨rfl, hb5⟩
      have HB5 : Hid (Below w.heap.size w w5) := Lib.hid (HB.out.trans (hb5.mono HB.out.size))
      clear CH hb5 HB k0 k1 k2 k3
      by_cases he : e = 0
      · have HF2 : Hid (firstBad (recsOf xs) = firstBad ((recsOf xs).drop (k + 1))) := Lib.hid (HF.out.trans (HFO.out he))
        have j : ((e : Int) != 0) = false := by simp [he]
        clear HFO HFE HF he
        go_wp2
        exact ⟨⟨k + 1, by omega, by go_num, HF2, HB5⟩, by simp [intOf]; omega⟩
      · have HRE : Hid (R = e) := Lib.hid (by
          have h1 : firstBad (recsOf xs) = e := HF.out.trans (HFE.out he)
          have h2 := HE1.out (by rw [h1]; exact he)
          rw [h2, h1])
        have j : ((e : Int) != 0) = true := by simp [he]
        have HNE : Hid (add h (recsOf xs) = h) := Lib.hid (HN.out (by rw [HRE.out]; exact he))
        clear HFO HFE HF
        go_wp2
        go_ret
        rw [HNE.out, HRE.out]
        exact quit HREF.out HB5.out
    · obtain rfl : k = xs.length := by omega
      have HF0 : Hid (firstBad (recsOf xs) = 0) := Lib.hid (HF.out.trans (by rw [← HRL.out, List.drop_length]; rfl))
      have HBAD : Hid (bad h.last (recsOf xs) = true → R = 6) := Lib.hid (fun e => by rw [← HA.out]; unfold addE; rw [if_neg (by rw [HF0.out]; decide), if_pos e])
      have HMANY : Hid (bad h.last (recsOf xs) = false → 65536 < ms.length + xs.length → R = 3) := Lib.hid (fun e e2 => by rw [← HA.out]; unfold addE; rw [if_neg (by rw [HF0.out]; decide), if_neg (by rw [e]; decide), if_pos (by rw [HRL.out, HMSR.out]; exact e2)])
      have HOK : Hid (bad h.last (recsOf xs) = false → ¬ 65536 < ms.length + xs.length → R = 0) := Lib.hid (fun e e2 => by rw [← HA.out]; unfold addE; rw [if_neg (by rw [HF0.out]; decide), if_neg (by rw [e]; decide), if_neg (by rw [HRL.out, HMSR.out]; exact e2)])
      clear HF HF0 hkx hk
      obtain ⟨w3, hw3⟩ : ∃ w3, w3 = wr := ⟨_, rfl⟩
      subst hw3
      go_wp2
      go_loopw [7] (fun vi wr => BRel w h.last xs vi wr) (fun vi _ => xs.length - (intOf vi).toNat)
      case atStart => exact ⟨0, Nat.zero_le _, rfl, Lib.hid (fun i _ h => by omega), HB⟩
      case round =>
        clear HB
        obtain ⟨k, hk, rfl, HBR, HB⟩ := hrel
        by_cases hkx : k < xs.length
        · obtain ⟨b1, o1, rfl, hbb, hc⟩ := HX.out.rd (by rw [flatR_len]; omega)
          have y1 := (HB.out.cell (p := ⟨b1, o1 + k * 4 + 1, .none⟩) hbb).trans (cellsR hc hkx).2.1
          have hxk : k < (recsOf xs).length := by rw [HRL.out]; exact hkx
          have HXK := Lib.hid hxk
          have HSK : Hid (seqAt (recsOf xs) k = (xs[k]).1.seq) := Lib.hid (by unfold seqAt; rw [recs_getD hkx])
          have hbox : wr.heap[p]? = _ := (HB.out.block p hlt).trans HRB.out.box
          generalize (xs[k]).1.seq = sk at *
          have r7 : IntKind.i64.wrap (k : Int) = (k : Int) := by rw [IntKind.wrap_i64]; omega
          have r8 : (0 : Int) ≤ (k : Int) := by omega
          have r9 : (k : Int) < (xs.length : Int) := by omega
          clear hxk
          obtain ⟨sl, hs⟩ : ∃ sl, h.last = sl := ⟨_, rfl⟩
          rcases sl with _ | y
          · have c1 : wr.cell? ⟨p, 1, .none⟩ = some (.int .u64 0) := cell_of_heap hbox (by rw [hs]; rfl)
            have c2 : wr.cell? ⟨p, 2, .none⟩ = some (.bool false) := cell_of_heap hbox (by rw [hs]; rfl)
            have HC1 : Hid (∀ y, h.last = some y → y < seqAt (recsOf xs) k) := Lib.hid (fun y e => by rw [hs] at e; cases e)
            clear hbox hs
            by_cases hk0 : k = 0
            · have d4 : decide (0 < (k : Int)) = false := by simp; omega
              have d5 : decide (0 < k) = false := by simp; omega
              have d6 : ¬ 0 < k := by omega
              have d7 : ¬ (0 : Int) < (k : Int) := by omega
              have HC2 : Hid (0 < k → seqAt (recsOf xs) (k - 1) < seqAt (recsOf xs) k) := Lib.hid (fun h0 => by omega)
              clear hk0
              have HBR2 : Hid (∀ i, i < (recsOf xs).length → i < k + 1 → (∀ y, h.last = some y → y < seqAt (recsOf xs) i) ∧ (0 < i → seqAt (recsOf xs) (i - 1) < seqAt (recsOf xs) i)) := Lib.hid (fun i hi hik => by
                by_cases e : i = k
                · subst e
                  exact ⟨HC1.out, HC2.out⟩
                · exact HBR.out i hi (by omega))
              clear HBR HC1 HC2
              go_wp2
              go_quiet (fail)
              go_wp2
              go_roundw
              case rel => exact ⟨k + 1, by omega, by go_num, HBR2, Lib.hid (drewN_below HB.out _)⟩
              case measure => simp [intOf]; omega
            · obtain ⟨i, hki⟩ : ∃ i, k = i + 1 := ⟨k - 1, by omega⟩
              have hix : i < xs.length := by omega
              have z1 := (HB.out.cell (p := ⟨b1, o1 + i * 4 + 1, .none⟩) hbb).trans (cellsR hc hix).2.1
              have HGD : Hid ((recsOf xs).getD (k - 1) RcSpec.none = (xs[i]).1) := Lib.hid (by rw [show k - 1 = i by omega]; exact recs_getD hix)
              have HZ : Hid (seqAt (recsOf xs) (k - 1) = (xs[i]).1.seq) := Lib.hid (by unfold seqAt; rw [HGD.out])
              generalize (xs[i]).1.seq = zi at *
              have r1 : (k : Int) - 1 = (i : Int) := by omega
              have r2 : (0 : Int) < (k : Int) := by omega
              have r3 : 0 < k := by omega
              have r4 : (0 : Int) ≤ (i : Int) := by omega
              have r5 : (i : Int) < (xs.length : Int) := by omega
              have r6 : IntKind.i64.wrap (i : Int) = (i : Int) := by rw [IntKind.wrap_i64]; omega
              have HKI := Lib.hid hki
              clear hki hk0 HGD
              by_cases hc2 : sk ≤ zi
              · have d8 : decide ((sk : Int) ≤ (zi : Int)) = true := decide_eq_true (by omega)
                have d9 : decide (sk ≤ zi) = true := decide_eq_true hc2
                have HBB : Hid (bad h.last (recsOf xs) = true) := Lib.hid (bad_of HXK.out (.inr ⟨by have := HKI.out; omega, by rw [HZ.out, HSK.out]; exact hc2⟩))
                clear hc
                clear HBR
                have HNE : Hid (add h (recsOf xs) = h) := Lib.hid (HN.out (by rw [HBAD.out HBB.out]; decide))
                go_wp2
                go_quiet (fail)
                go_wp2
                go_ret
                rw [HNE.out, HBAD.out HBB.out]
                exact quit HREF.out (drewN_below HB.out _)
              · have d8 : decide ((sk : Int) ≤ (zi : Int)) = false := decide_eq_false (by omega)
                have d9 : decide (sk ≤ zi) = false := decide_eq_false hc2
                have HC2 : Hid (0 < k → seqAt (recsOf xs) (k - 1) < seqAt (recsOf xs) k) := Lib.hid (fun _ => by rw [HZ.out, HSK.out]; omega)
                clear hc
                have HBR2 : Hid (∀ i, i < (recsOf xs).length → i < k + 1 → (∀ y, h.last = some y → y < seqAt (recsOf xs) i) ∧ (0 < i → seqAt (recsOf xs) (i - 1) < seqAt (recsOf xs) i)) := Lib.hid (fun i hi hik => by
                  by_cases e : i = k
                  · subst e
                    exact ⟨HC1.out, HC2.out⟩
                  · exact HBR.out i hi (by omega))
                clear HBR HC1 HC2
                go_wp2
                go_quiet (fail)
                go_wp2
                go_roundw
                case rel => exact ⟨k + 1, by omega, by go_num, HBR2, Lib.hid (drewN_below HB.out _)⟩
                case measure => simp [intOf]; omega
          · have c1 : wr.cell? ⟨p, 1, .none⟩ = some (.int .u64 (y : Int)) := cell_of_heap hbox (by rw [hs]; rfl)
            have c2 : wr.cell? ⟨p, 2, .none⟩ = some (.bool true) := cell_of_heap hbox (by rw [hs]; rfl)
            have HS := Lib.hid hs
            clear hbox hs
            by_cases hc1 : sk ≤ y
            · have d1 : decide ((sk : Int) ≤ (y : Int)) = true := decide_eq_true (by omega)
              have d2 : decide (sk ≤ y) = true := decide_eq_true hc1
              have HBB : Hid (bad h.last (recsOf xs) = true) := Lib.hid (bad_of HXK.out (.inl ⟨y, HS.out, by rw [HSK.out]; exact hc1⟩))
              clear hc
              clear HBR
              have HNE : Hid (add h (recsOf xs) = h) := Lib.hid (HN.out (by rw [HBAD.out HBB.out]; decide))
              go_wp2
              go_quiet (fail)
              go_wp2
              go_ret
              rw [HNE.out, HBAD.out HBB.out]
              exact quit HREF.out (drewN_below HB.out _)
            · have d1 : decide ((sk : Int) ≤ (y : Int)) = false := decide_eq_false (by omega)
              have d2 : decide (sk ≤ y) = false := decide_eq_false hc1
              have HC1 : Hid (∀ y, h.last = some y → y < seqAt (recsOf xs) k) := Lib.hid (fun y' e => by rw [HS.out] at e; cases e; rw [HSK.out]; omega)
              by_cases hk0 : k = 0
              · have d4 : decide (0 < (k : Int)) = false := by simp; omega
                have d5 : decide (0 < k) = false := by simp; omega
                have d6 : ¬ 0 < k := by omega
                have d7 : ¬ (0 : Int) < (k : Int) := by omega
                have HC2 : Hid (0 < k → seqAt (recsOf xs) (k - 1) < seqAt (recsOf xs) k) := Lib.hid (fun h0 => by omega)
                clear hk0
                have HBR2 : Hid (∀ i, i < (recsOf xs).length → i < k + 1 → (∀ y, h.last = some y → y < seqAt (recsOf xs) i) ∧ (0 < i → seqAt (recsOf xs) (i - 1) < seqAt (recsOf xs) i)) := Lib.hid (fun i hi hik => by
                  by_cases e : i = k
                  · subst e
                    exact ⟨HC1.out, HC2.out⟩
                  · exact HBR.out i hi (by omega))
                clear HBR HC1 HC2
                go_wp2
                go_quiet (fail)
                go_wp2
                go_roundw
                case rel => exact ⟨k + 1, by omega, by go_num, HBR2, Lib.hid (drewN_below HB.out _)⟩
                case measure => simp [intOf]; omega
              · obtain ⟨i, hki⟩ : ∃ i, k = i + 1 := ⟨k - 1, by omega⟩
                have hix : i < xs.length := by omega
                have z1 := (HB.out.cell (p := ⟨b1, o1 + i * 4 + 1, .none⟩) hbb).trans (cellsR hc hix).2.1
                have HGD : Hid ((recsOf xs).getD (k - 1) RcSpec.none = (xs[i]).1) := Lib.hid (by rw [show k - 1 = i by omega]; exact recs_getD hix)
                have HZ : Hid (seqAt (recsOf xs) (k - 1) = (xs[i]).1.seq) := Lib.hid (by unfold seqAt; rw [HGD.out])
                generalize (xs[i]).1.seq = zi at *
                have r1 : (k : Int) - 1 = (i : Int) := by omega
                have r2 : (0 : Int) < (k : Int) := by omega
                have r3 : 0 < k := by omega
                have r4 : (0 : Int) ≤ (i : Int) := by omega
                have r5 : (i : Int) < (xs.length : Int) := by omega
                have r6 : IntKind.i64.wrap (i : Int) = (i : Int) := by rw [IntKind.wrap_i64]; omega
                have HKI := Lib.hid hki
                clear hki hk0 HGD
                by_cases hc2 : sk ≤ zi
                · have d8 : decide ((sk : Int) ≤ (zi : Int)) = true := decide_eq_true (by omega)
                  have d9 : decide (sk ≤ zi) = true := decide_eq_true hc2
                  have HBB : Hid (bad h.last (recsOf xs) = true) := Lib.hid (bad_of HXK.out (.inr ⟨by have := HKI.out; omega, by rw [HZ.out, HSK.out]; exact hc2⟩))
                  clear hc
                  clear HBR
                  have HNE : Hid (add h (recsOf xs) = h) := Lib.hid (HN.out (by rw [HBAD.out HBB.out]; decide))
                  go_wp2
                  go_quiet (fail)
                  go_wp2
                  go_ret
                  rw [HNE.out, HBAD.out HBB.out]
                  exact quit HREF.out (drewN_below HB.out _)
                · have d8 : decide ((sk : Int) ≤ (zi : Int)) = false := decide_eq_false (by omega)
                  have d9 : decide (sk ≤ zi) = false := decide_eq_false hc2
                  have HC2 : Hid (0 < k → seqAt (recsOf xs) (k - 1) < seqAt (recsOf xs) k) := Lib.hid (fun _ => by rw [HZ.out, HSK.out]; omega)
                  clear hc
                  have HBR2 : Hid (∀ i, i < (recsOf xs).length → i < k + 1 → (∀ y, h.last = some y → y < seqAt (recsOf xs) i) ∧ (0 < i → seqAt (recsOf xs) (i - 1) < seqAt (recsOf xs) i)) := Lib.hid (fun i hi hik => by
                    by_cases e : i = k
                    · subst e
                      exact ⟨HC1.out, HC2.out⟩
                    · exact HBR.out i hi (by omega))
                  clear HBR HC1 HC2
                  go_wp2
                  go_quiet (fail)
                  go_wp2
                  go_roundw
                  case rel => exact ⟨k + 1, by omega, by go_num, HBR2, Lib.hid (drewN_below HB.out _)⟩
                  case measure => simp [intOf]; omega
        · obtain rfl : k = xs.length := by omega
          have HNB : Hid (bad h.last (recsOf xs) = false) := Lib.hid (not_bad fun i hi => HBR.out i hi (by rw [← HRL.out]; exact hi))
          have HRB3 : Hid (RefB wr K o p h.recs h.last ms (.slice Av ms.length cv)) := Lib.hid (HRB.out.mo (Mo.same (S := fun _ => False) HB.out) (fun h => h) (fun h => h))
          have k0 := cell_of_heap (j := 0) HRB3.out.box rfl
          have hlt3 := HRB3.out.lt
          clear HBR hk hkx
          by_cases hmany : 65536 < ms.length + xs.length
          · have HR3 : Hid (R = 3) := Lib.hid (HMANY.out HNB.out hmany)
            have HNE : Hid (add h (recsOf xs) = h) := Lib.hid (HN.out (by rw [HR3.out]; decide))
            have j : (65536 : Int) < (ms.length : Int) + (xs.length : Int) := by omega
            clear HRB3
            go_wp2
            go_ret
            rw [HNE.out, HR3.out]
            exact quit HREF.out HB.out
          · have HR0 : Hid (R = 0) := Lib.hid (HOK.out HNB.out hmany)
            have HNE : Hid (add h (recsOf xs) = ⟨h.recs ++ recsOf xs, lastOf h.last (recsOf xs)⟩) := Lib.hid (by unfold add; rw [if_pos (by rw [HA.out]; exact HR0.out)])
            have j : ¬ (65536 : Int) < (ms.length : Int) + (xs.length : Int) := by omega
            have HC0 : Hid (∃ Kr ms' vr, RefB wr Kr o p (h.recs ++ (recsOf xs).take 0) (lastOf h.last ((recsOf xs).take 0)) ms' vr ∧ Mo K Kr (fun x => x = o) w wr) := Lib.hid ⟨K, ms, _, by rw [List.take_zero, List.append_nil]; exact HRB3.out, Mo.same HB.out⟩
            clear HN HE1 HBAD HMANY HOK HNB HRB3
            go_wp2
            go_loopw [8] (fun vi wr => CRel w K o p h xs vi wr) (fun vi _ => xs.length - (intOf vi).toNat)
            case atStart => exact ⟨0, Nat.zero_le _, rfl, HC0⟩
            case round =>
              clear HC0 HB
              obtain ⟨k, hk, rfl, HC⟩ := hrel
              obtain ⟨Kr, msr, vr, hbr, hmr⟩ := HC.out
              clear HC
              by_cases hkx : k < xs.length
              · obtain ⟨hrx, hlx⟩ := rl_mo HX.out HLI.out hmr (fun q hq => by subst hq; exact fun e => ho e.symm)
                have hlen : msr.length = ms.length + k := by
                  have h1 := congrArg List.length hbr.recs
                  rw [recs_len, List.length_append, List.length_take, HMSR.out, HRL.out] at h1
                  omega
                have hlen2 : msr.length ≤ 65536 := by omega
                clear hlen
                obtain ⟨Ar, cr, rfl, hr1, hr2, _⟩ := own_row hbr.own (flatR_len msr)
                obtain ⟨b1, o1, rfl, hbb, hc⟩ := hrx.rd (by rw [flatR_len]; omega)
                obtain ⟨q0, q1, q2, q3⟩ := cellsR hc hkx
                have hok := hrx.each _ (List.getElem_mem hkx)
                have hlm := hlx.labs _ (List.getElem_mem hkx)
                have HSN := Lib.hid (recs_snoc hkx)
                have c0 := cell_of_heap (j := 0) hbr.box rfl
                have HBR := Lib.hid hbr
                have HMR := Lib.hid hmr
                have hpz := hbr.lt
                -- the append, and all that comes of it
                have key : ∀ m : RM, xs[k] = m → ∃ v' w', (∃ A' c', v' = .slice A' (msr.length + 1) c') ∧ (Builtin.append_ #[28, 28] 28 #[.slice Ar msr.length cr, .slice (some ⟨wr.heap.size, 0, .none⟩) 1 1]).run Tryz.prog (wr.drew.alloc (.cells #[.int .i64 m.1.time, .int .u64 (m.1.seq : Int), slV m.2, S8 m.1.line] 47)) = .ok v' w' ∧
                    w'.frozen? ⟨p, 0, .none⟩ = false ∧ (w'.setCell ⟨p, 0, .none⟩ v').frozen? ⟨p, 1, .none⟩ = false ∧ ((w'.setCell ⟨p, 0, .none⟩ v').setCell ⟨p, 1, .none⟩ (.int .u64 (m.1.seq : Int))).frozen? ⟨p, 2, .none⟩ = false ∧
                    (w'.setCell ⟨p, 0, .none⟩ v').cell? ⟨b1, o1 + k * 4 + 1, .none⟩ = some (.int .u64 (m.1.seq : Int)) ∧ w'.cell? ⟨p, 0, .none⟩ = some (.slice Ar msr.length cr) ∧ (∃ u, (w'.setCell ⟨p, 0, .none⟩ v').cell? ⟨p, 1, .none⟩ = some u) ∧ (∃ u, ((w'.setCell ⟨p, 0, .none⟩ v').setCell ⟨p, 1, .none⟩ (.int .u64 (m.1.seq : Int))).cell? ⟨p, 2, .none⟩ = some u) ∧
                    ∃ Kr' ms' vr, RefB (((w'.setCell ⟨p, 0, .none⟩ v').setCell ⟨p, 1, .none⟩ (.int .u64 (m.1.seq : Int))).setCell ⟨p, 2, .none⟩ (.bool true)) Kr' o p (h.recs ++ (recsOf xs).take (k + 1)) (lastOf h.last ((recsOf xs).take (k + 1))) ms' vr ∧ Mo K Kr' (fun x => x = o) w (((w'.setCell ⟨p, 0, .none⟩ v').setCell ⟨p, 1, .none⟩ (.int .u64 (m.1.seq : Int))).setCell ⟨p, 2, .none⟩ (.bool true)) := by
                  intro m hm
                  rw [hm] at hok hlm q1
                  have HSN2 := HSN.out
                  rw [hm] at HSN2
                  obtain ⟨v', w', hrun, hown', hg', hv'⟩ := run_append_rd (P := Tryz.prog) (wr.drew.alloc (.cells #[.int .i64 m.1.time, .int .u64 (m.1.seq : Int), slV m.2, S8 m.1.line] 47)) 0 4 28 28 47 i1 (.agg #[.int .i64 0, .int .u64 0, .slice .none 0 0, .string ByteArray.empty]) 56 Tryz.underlying28 gi gz0 gz1 gz2 rfl (by omega) _ _ _ (show (wr.drew.alloc (.cells #[.int .i64 m.1.time, .int .u64 (m.1.seq : Int), slV m.2, S8 m.1.line] 47)).ownsRow 0 47 4 _ _ _ from (show wr.drew.ownsRow 0 47 4 _ _ _ from hbr.own).alloc _)
                    (wr.heap.size + 1) (some ⟨wr.heap.size, 0, .none⟩) 1 1 (rcells m) rfl (Rd.made wr.drew #[.int .i64 m.1.time, .int .u64 (m.1.seq : Int), slV m.2, S8 m.1.line] 47) (rcells_ones m) (by unfold maxLen; omega) (by omega) (by simp)
                  have hown2 : ∀ q, (Value.slice Ar msr.length cr).ownBlock = some q → q < wr.heap.size := fun q hq => (hbr.own.lt q hq).2
                  have hmo : Mo Kr (kmark Kr wr.heap.size o) (fun x => x = o) wr w' := by
                    refine ⟨hg'.os, hg'.tape, hg'.output, Nat.le_trans (by simp) hg'.size, fun i hi hk => ⟨(hg'.block i (by simp; omega) (fun e => hk ((hbr.kv i e.symm).1))).trans (Below.heap_alloc wr.drew _ i hi), kmark_old hi⟩⟩
                  have hbx0 : w'.heap[p]? = some (.cells #[.slice Ar msr.length cr, .int .u64 (((lastOf h.last ((recsOf xs).take k)).getD 0 : Nat) : Int), .bool (lastOf h.last ((recsOf xs).take k)).isSome] 62 (0, 0)) := (hg'.block p (by simp; omega) (fun e => (hbr.kv p e.symm).2 rfl)).trans ((Below.heap_alloc wr.drew _ p hpz).trans hbr.box)
                  have hbx1 := heap_setCell_same w' p 0 _ _ v' hbx0
                  have hbx2 := heap_setCell_same (w'.setCell ⟨p, 0, .none⟩ v') p 1 _ _ (.int .u64 (m.1.seq : Int)) hbx1
                  have hbx3 := heap_setCell_same ((w'.setCell ⟨p, 0, .none⟩ v').setCell ⟨p, 1, .none⟩ (.int .u64 (m.1.seq : Int))) p 2 _ _ (.bool true) hbx2
                  have hkp : kmark Kr wr.heap.size o p = o := (kmark_old hpz).trans hbr.kp
                  have hm1 : Mo Kr (kmark Kr wr.heap.size o) (fun x => x = o) wr (w'.setCell ⟨p, 0, .none⟩ v') := hmo.trans (Mo.poke (a := ⟨p, 0, .none⟩) _ hkp)
                  have hm3 : Mo Kr (kmark Kr wr.heap.size o) (fun x => x = o) wr (((w'.setCell ⟨p, 0, .none⟩ v').setCell ⟨p, 1, .none⟩ (.int .u64 (m.1.seq : Int))).setCell ⟨p, 2, .none⟩ (.bool true)) := (hm1.trans (Mo.poke (a := ⟨p, 1, .none⟩) _ hkp)).trans (Mo.poke (a := ⟨p, 2, .none⟩) _ hkp)
                  have hnp : ∀ q, v'.ownBlock = some q → q ≠ p ∧ kmark Kr wr.heap.size o q = o := fun q hq => by
                    rcases hv' with e | e
                    · rw [e] at hq
                      exact ⟨(hbr.kv q hq).2, (kmark_old (hown2 q hq)).trans (hbr.kv q hq).1⟩
                    · rw [e] at hq
                      cases hq
                      have hz : (wr.drew.alloc (.cells #[.int .i64 m.1.time, .int .u64 (m.1.seq : Int), slV m.2, S8 m.1.line] 47)).heap.size = wr.heap.size + 1 := by simp
                      exact ⟨by omega, kmark_new (by omega)⟩
                  have hcell : w'.cell? ⟨b1, o1 + k * 4 + 1, .none⟩ = some (.int .u64 (m.1.seq : Int)) := (World.cell?_of_block (a := ⟨b1, o1 + k * 4 + 1, .none⟩) (hmo.keep b1 hbb (by rw [hlx.row b1 o1 rfl (by omega)]; exact fun e => ho e.symm)).1).trans q1
                  have hne : b1 ≠ p := fun e => by
                    have h1 := hlx.row b1 o1 rfl (by omega)
                    rw [e, hbr.kp] at h1
                    exact ho h1
                  have hsl : ∃ A' c', v' = .slice A' (msr.length + 1) c' := by
                    obtain ⟨A', c', e, _⟩ := own_row hown' (by rw [List.length_append, flatR_len]; simp [rcells]; omega)
                    exact ⟨A', c', e⟩
                  refine ⟨v', w', hsl, hrun, frozen_of_heap hbx0, frozen_of_heap hbx1, frozen_of_heap hbx2, (World.cell?_setCell_other w' _ _ _ (fun e => hne (by injection e with e; exact e.symm))).trans hcell, cell_of_heap hbx0 rfl, ⟨_, cell_of_heap (j := 1) hbx1 rfl⟩, ⟨_, cell_of_heap (j := 2) hbx2 rfl⟩, kmark Kr wr.heap.size o, msr ++ [m], v', ⟨?_, ?_, hkp, ?_, fun q hq => ⟨(hnp q hq).2, (hnp q hq).1⟩, fun x hx => ?_⟩, hmr.trans hm3⟩
                  · rw [show recsOf (msr ++ [m]) = recsOf msr ++ [m.1] by simp [recsOf], hbr.recs, HSN2, List.append_assoc]
                  · rw [HSN2, lastOf_snoc]
                    exact hbx3
                  · rw [List.length_append, flatR_append, flatR_one]
                    exact ownsRow_setCell_other (ownsRow_setCell_other (ownsRow_setCell_other hown' (fun e => (hnp _ e).1 rfl) _) (fun e => (hnp _ e).1 rfl) _) (fun e => (hnp _ e).1 rfl) _
                  · rcases List.mem_append.1 hx with hx | hx
                    · have h2 := hbr.each x hx
                      obtain ⟨h3, h4⟩ := okm_mo h2.1 hm3 (fun b off e hn => by rw [h2.2 b off e hn]; exact fun e => ho e.symm)
                      exact ⟨h3, fun b off e hn => (h4 b off e hn).trans (h2.2 b off e hn)⟩
                    · rw [List.mem_singleton.1 hx]
                      obtain ⟨h3, h4⟩ := okm_mo hok hm3 (fun b off e hn => by rw [hlm b off e hn]; exact fun e => ho e.symm)
                      exact ⟨h3, fun b off e hn => (h4 b off e hn).trans (hlm b off e hn)⟩
                obtain ⟨v', w', ⟨A', c', rfl⟩, hrun, f0, f1, f2, s1, s0, ⟨u1, s2⟩, ⟨u2, s3⟩, hlast⟩ := key _ rfl
                have HLAST := Lib.hid hlast
                clear key hlast hok hlm hrx hlx hc HSN hmr hbr
                unfold slV at hrun q2
                unfold S8 at hrun
                generalize xs[k] = m at *
                obtain ⟨⟨tm, s, ls, ln⟩, Am, nm, cm⟩ := m
                simp only at q0 q1 q2 q3 hrun f0 f1 f2 s0 s1 s2 s3 HLAST
                have r8 : (0 : Int) ≤ (k : Int) := by omega
                have r9 : (k : Int) < (xs.length : Int) := by omega
                clear HBR HMR
                go_wp2
                go_region_law (refine HdTerms.step_append_run rfl (.tmp 84) (.tmp 89) 28 rfl _ w' hrun ?_)
                all_goals
                  clear hrun q0 q1 q2 q3 c0
                  go_wp2
                  exact ⟨⟨k + 1, by omega, by go_num, HLAST⟩, by simp only [intOf]; omega⟩
              · obtain rfl : k = xs.length := by omega
                have HFIN : Hid (RefR wr Kr o p (add h (recsOf xs)) ∧ Mo K Kr (fun x => x = o) w wr) := Lib.hid (by
                  rw [HNE.out]
                  rw [← HRL.out, List.take_length] at hbr
                  refine ⟨⟨?_, msr, vr, hbr⟩, hmr⟩
                  rw [← HNE.out]
                  exact good_add HREF.out.1 (fun r hr => by
                    obtain ⟨m, hm, rfl⟩ := List.mem_map.1 hr
                    exact (HX.out.each m hm).fits))
                clear hbr hmr
                go_wp2
                go_ret
                rw [HR0.out]
                exact ⟨rfl, Kr, HFIN.out.1, HFIN.out.2⟩

set_option maxHeartbeats 1600000 in
theorem raddNil_any (w : World) (v : Value) : Calls Tryz.prog 12 #[.pointer .none, v] w fun e w' => e = .returned (.int .i64 2) ∧ w = w' := by
  have hn := eq_nil
  go_enter Tryz.func12, Tryz.ntmps12
  go_wp2
  go_ret
  exact ⟨rfl, rfl⟩
end Go.Proofs.YtkgmcabamhpjhaaGreat.HdAdd
