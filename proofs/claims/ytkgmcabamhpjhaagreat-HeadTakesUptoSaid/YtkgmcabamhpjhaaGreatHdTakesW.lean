/- HeadTakes, walked over the contracts of head's calls. Condition: the records together are below 2^20. -/
import Derived.Test.YtkgmcabamhpjhaaGreatHdMems
import Derived.Test.YtkgmcabamhpjhaaGreatLbRefs
import Derived.Test.YtkgmcabamhpjhaaGreatHdSpecs
import Derived.Deep.DeepCutAuto
namespace Go.Proofs.YtkgmcabamhpjhaaGreat.HdTakesW
open Go Go.RowKit Words AppN Less LbSpec LbMem LbRef RcSpec RcAll RcMem RcRef LbOpen RcOpen HdSpec HdRm HdMem HdKm HdLaw HdAwake TxSame UtOwn Km

/-! ### Plain -/
def setSeq (m : RM) (s : Nat) : RM := (⟨m.1.time, s, m.1.labels, m.1.line⟩, m.2)
def renum (ms : List RM) : List RM := ms.mapIdx fun i m => setSeq m (i + 1)
theorem renum_len (ms : List RM) : (renum ms).length = ms.length := by simp [renum]
theorem renum_snoc {l : List RM} {k : Nat} (h : k < l.length) : renum (l.take (k + 1)) = renum (l.take k) ++ [setSeq l[k] (k + 1)] := by
  rw [List.take_succ_eq_append_getElem h]
  unfold renum
  rw [List.mapIdx_append]
  simp [Nat.min_eq_left (Nat.le_of_lt h)]
theorem renum_at {l : List RM} {k : Nat} (h : k < l.length) : (renum l)[k]'(by rw [renum_len]; exact h) = setSeq l[k] (k + 1) := by simp [renum]
theorem size_setSeq (m : RM) (s : Nat) : sizeR (setSeq m s).1 = sizeR m.1 := rfl
theorem total_renum (l : List RM) : totalR (renum l) = totalR l := by
  unfold totalR renum
  congr 1
  apply List.ext_getElem
  · simp
  · intro i h1 h2
    simp [size_setSeq]
theorem total_append (a b : List RM) : totalR (a ++ b) = totalR a + totalR b := by simp [totalR]
theorem total_take (l : List RM) (k : Nat) : totalR (l.take k) ≤ totalR l := by
  conv => rhs; rw [← List.take_append_drop k l, total_append]
  omega
theorem total_drop (l : List RM) (k : Nat) : totalR (l.drop k) ≤ totalR l := by
  conv => rhs; rw [← List.take_append_drop k l, total_append]
  omega
theorem len_total (l : List RM) : l.length ≤ totalR l := by
  induction l with
  | nil => simp [totalR]
  | cons x l ih =>
    rw [show x :: l = [x] ++ l from rfl, total_append, List.length_append]
    have : 1 ≤ totalR [x] := by simp [totalR, sizeR]
    simp only [List.length_cons, List.length_nil]
    omega
theorem addE_ok {h : HSt} {l : List Rec} (e : addE h l = 0) : firstBad l = 0 ∧ bad h.last l = false ∧ h.recs.length + l.length ≤ 65536 := by
  unfold addE at e
  split at e
  · rename_i h1; exact absurd e h1
  · rename_i h1
    split at e
    · cases e
    · rename_i h2
      split at e
      · cases e
      · rename_i h3
        exact ⟨by omega, by simpa using h2, by omega⟩
theorem add_ok {h : HSt} {l : List Rec} (e : addE h l = 0) : add h l = ⟨h.recs ++ l, lastOf h.last l⟩ := by unfold add; rw [if_pos e]
theorem add_not {h : HSt} {l : List Rec} (e : addE h l ≠ 0) : add h l = h := by unfold add; rw [if_neg e]
/-- A slice of records from its beginning; from a place on. -/
theorem rl_take {w : World} {A : Option Addr} {n c : Nat} {ms : List RM} (h : Rl w A n c ms) {k : Nat} (hk : k ≤ n) : Rl w A k c (ms.take k) :=
  ⟨by rw [List.length_take, ← h.len]; omega, Nat.le_trans hk h.le, h.cap, by rw [← flatR_take]; exact h.rd.take _, fun m hm => h.each m (List.mem_of_mem_take hm)⟩
theorem lies_take {K : Nat → Nat} {S : Nat → Prop} {A : Option Addr} {ms : List RM} (h : Lies K S A ms) (k : Nat) : Lies K S A (ms.take k) :=
  ⟨fun b off e hn => h.row b off e (by rw [List.length_take] at hn; omega), fun m hm => h.labs m (List.mem_of_mem_take hm)⟩
theorem rl_none {w : World} (A : Option Addr) {c : Nat} (hc : c ≤ maxLen) : Rl w A 0 c [] := ⟨rfl, Nat.zero_le _, hc, Rd.nil_, fun m hm => by cases hm⟩
theorem lies_none {K : Nat → Nat} {S : Nat → Prop} (A : Option Addr) : Lies K S A [] := ⟨fun b off _ hn => by simp at hn, fun m hm => by cases hm⟩
theorem rl_drop {w : World} {b off n c : Nat} {ms : List RM} (h : Rl w (some ⟨b, off, .none⟩) n c ms) (k : Nat) : Rl w (some ⟨b, off + k * 4, .none⟩) (n - k) (c - k) (ms.drop k) := by
  refine ⟨by rw [List.length_drop, ← h.len], by have := h.le; omega, by have := h.cap; omega, fun hn => ?_, fun m hm => h.each m (List.mem_of_mem_drop hm)⟩
  obtain ⟨b4, o4, e4, hb4, hd4⟩ := h.rd (by rw [flatR_len] at hn ⊢; rw [List.length_drop] at hn; omega)
  cases e4
  refine ⟨b, off + k * 4, rfl, hb4, fun q u hu => ?_⟩
  rw [← flatR_drop, List.getElem?_drop] at hu
  rw [Nat.add_assoc]
  exact hd4 _ u hu
theorem lies_drop {K : Nat → Nat} {S : Nat → Prop} {b off : Nat} {ms : List RM} (h : Lies K S (some ⟨b, off, .none⟩) ms) (k o' : Nat) : Lies K S (some ⟨b, o', .none⟩) (ms.drop k) :=
  ⟨fun b' off' e hn => by cases e; exact h.row b off rfl (by rw [List.length_drop] at hn; omega), fun m hm => h.labs m (List.mem_of_mem_drop hm)⟩

theorem both_drop {w : World} {K : Nat → Nat} {S : Nat → Prop} {b off n c : Nat} {ms : List RM} (h : Rl w (some ⟨b, off, .none⟩) n c ms ∧ Lies K S (some ⟨b, off, .none⟩) ms) (k : Nat) : Rl w (some ⟨b, off + k * 4, .none⟩) (n - k) (c - k) (ms.drop k) ∧ Lies K S (some ⟨b, off + k * 4, .none⟩) (ms.drop k) := ⟨rl_drop h.1 k, lies_drop h.2 k _⟩
theorem okm_setSeq {w : World} {m : RM} (h : Okm w m) {s : Nat} (hs : s < 18446744073709551616) : Okm w (setSeq m s) := ⟨h.labs, h.fits.1, hs⟩
theorem mem_renum {l : List RM} {m : RM} (h : m ∈ renum l) : ∃ i, ∃ hi : i < l.length, m = setSeq l[i] (i + 1) := by
  obtain ⟨i, hi, rfl⟩ := List.mem_iff_getElem.1 h
  rw [renum_len] at hi
  exact ⟨i, hi, renum_at hi⟩
theorem eqA_self (l : List Rec) : eqA l l = true := eqA_iff.2 rfl
theorem lastOf_take {l : List RM} {k : Nat} (hk : k ≤ l.length) (h0 : 0 < k) (s : Option Nat) : lastOf s (recsOf ((renum l).take k)) = some k := by
  obtain ⟨j, rfl⟩ : ∃ j, k = j + 1 := ⟨k - 1, by omega⟩
  rw [List.take_succ_eq_append_getElem (by rw [renum_len]; omega), renum_at (by omega), show recsOf ((renum l).take j ++ [setSeq l[j] (j + 1)]) = recsOf ((renum l).take j) ++ [(setSeq l[j] (j + 1)).1] by simp [recsOf], lastOf_snoc]
  rfl
theorem firstBad_head {l : List Rec} (h : firstBad l = 0) (h0 : 0 < l.length) : check l[0] = 0 := check_ok.2 (firstBad_zero.1 h _ (List.getElem_mem h0))
theorem firstBad_tail {l : List Rec} {x : Rec} (h : check x ≠ 0) : firstBad (l ++ [x]) ≠ 0 := fun e => h (check_ok.2 (firstBad_zero.1 e x (by simp)))
theorem addE_bad {h : HSt} {l : List Rec} (e : firstBad l ≠ 0) : addE h l ≠ 0 := by unfold addE; rw [if_pos e]; exact e
def MRel (w : World) (l : List RM) (vm vi : Value) (wr : World) : Prop := ∃ k : Nat, k ≤ l.length ∧ vi = .int .i64 (k : Int) ∧ Hid (wr.ownsRow w.heap.size 47 4 vm (renum (l.take k)).length (flatR (renum (l.take k)))) ∧ Hid (Below w.heap.size w wr)

set_option maxHeartbeats 12800000 in
set_option maxRecDepth 100000 in
theorem takes_walk {HeadR : World → (Nat → Nat) → Nat → Nat → HSt → Prop} (P : Hed HeadR) (w : World) (l : List RM) (A : Option Addr) (c : Nat) (h : Rl w A l.length c l) (hz : totalR l ≤ 1048576) (cut : Int) (_hcut : (Lit.int .i64 cut).wf = true) :
    Calls Tryz.prog 6 #[.slice A l.length c, .int .i64 cut] w fun e w' => e = .returned (.bool true) ∧ Below w.heap.size w w' := by
  obtain ⟨i1, gi, gz0, gz1, gz2⟩ := info_parts info_record
  have HL := Lib.hid h
  have hll := Nat.le_trans (len_total l) hz
  have HA := Lib.hid (awake_any P w)
  obtain ⟨_, hnc, hcm, _, _⟩ := h
  unfold maxLen at hcm
  go_enter Tryz.func6, Tryz.ntmps6
  go_wp2_with fail
  refine HA.out.mono ?_
  rintro e w1 ⟨rfl, hb1⟩
  have HB1 := Lib.hid hb1
  clear hb1 HA
  go_wp2
  go_loopw [5, 6] (fun vm vi wr => MRel w l vm vi wr) (fun _ vi _ => l.length - (intOf vi).toNat)
  case atStart => exact ⟨0, Nat.zero_le _, rfl, Lib.hid (World.ownsRow_nil ..), HB1⟩
  case round =>
    obtain ⟨k, hk, rfl, HO, HB⟩ := hrel
    clear HB1
    by_cases hlt : k < l.length
    · obtain ⟨b1, o1, rfl, hbb, hc⟩ := HL.out.rd (by rw [flatR_len]; omega)
      obtain ⟨q0, q1, q2, q3⟩ := cellsR hc hlt
      have k0 := (HB.out.cell (p := ⟨b1, o1 + k * 4, .none⟩) hbb).trans q0
      have k1 := (HB.out.cell (p := ⟨b1, o1 + k * 4 + 1, .none⟩) hbb).trans q1
      have k2 := (HB.out.cell (p := ⟨b1, o1 + k * 4 + 2, .none⟩) hbb).trans q2
      have k3 := (HB.out.cell (p := ⟨b1, o1 + k * 4 + 3, .none⟩) hbb).trans q3
      have HSN := Lib.hid (renum_snoc hlt)
      have hrl : (renum (l.take k)).length ≤ k := by rw [renum_len]; exact List.length_take_le _ _
      unfold slV at k2
      generalize l[k] = m at *
      generalize renum (l.take k) = M at *
      obtain ⟨⟨tm, s, ls, ln⟩, Am, nm, cm⟩ := m
      simp only at k0 k1 k2 k3
      unfold setSeq at HSN
      simp only at HSN
      clear hc q0 q1 q2 q3
      have hwk : IntKind.u64.wrap (k : Int) = (k : Int) := by rw [IntKind.wrap_u64]; omega
      have hb2 : Below wr.heap.size wr ((wr.alloc (.cells #[.int .i64 tm, .int .u64 ((k : Int) + 1), .slice Am nm cm, .string ⟨ln.toArray⟩] 47)).alloc (.cells #[.int .i64 tm, .int .u64 ((k : Int) + 1), .slice Am nm cm, .string ⟨ln.toArray⟩] 47)) := ((Below.refl _ wr).alloc (Nat.le_refl _) _).alloc (by simp) _
      have HB2 : Hid (Below w.heap.size w ((wr.alloc (.cells #[.int .i64 tm, .int .u64 ((k : Int) + 1), .slice Am nm cm, .string ⟨ln.toArray⟩] 47)).alloc (.cells #[.int .i64 tm, .int .u64 ((k : Int) + 1), .slice Am nm cm, .string ⟨ln.toArray⟩] 47))) := Lib.hid (HB.out.trans (hb2.mono HB.out.size))
      have HO2 := Lib.hid (LbCanon.own_keepN HO.out hb2)
      have hsz : (wr.alloc (.cells #[.int .i64 tm, .int .u64 ((k : Int) + 1), .slice Am nm cm, .string ⟨ln.toArray⟩] 47)).heap.size = wr.heap.size + 1 := by simp
      have HM : Hid (Rd ((wr.alloc (.cells #[.int .i64 tm, .int .u64 ((k : Int) + 1), .slice Am nm cm, .string ⟨ln.toArray⟩] 47)).alloc (.cells #[.int .i64 tm, .int .u64 ((k : Int) + 1), .slice Am nm cm, .string ⟨ln.toArray⟩] 47)) (wr.heap.size + 1 + 1) (some ⟨wr.heap.size + 1, 0, .none⟩) [.int .i64 tm, .int .u64 ((k : Int) + 1), .slice Am nm cm, .string ⟨ln.toArray⟩]) := Lib.hid (by
        have h := Rd.made (wr.alloc (.cells #[.int .i64 tm, .int .u64 ((k : Int) + 1), .slice Am nm cm, .string ⟨ln.toArray⟩] 47)) #[.int .i64 tm, .int .u64 ((k : Int) + 1), .slice Am nm cm, .string ⟨ln.toArray⟩] 47
        rwa [hsz] at h)
      have HS := Lib.hid HB.out.size
      clear hb2 hsz HO
      go_wp2_with (at_builtin; refine wpList_append_rd _ rfl (.tmp 30) (.tmp 32) 28 rfl w.heap.size 4 47 i1 (.agg #[.int .i64 0, .int .u64 0, .slice .none 0 0, .string ByteArray.empty]) 56 Tryz.underlying28 gi gz0 gz1 gz2 rfl (by omega) _ _ _ rfl HO2.out (wr.heap.size + 1 + 1) (some ⟨wr.heap.size + 1, 0, .none⟩) 1 1 [.int .i64 tm, .int .u64 ((k : Int) + 1), .slice Am nm cm, .string ⟨ln.toArray⟩] rfl rfl HM.out ?f1 ?f2 ?f3 ?f4 ?_)
      case f1 => intro u hu; simp at hu; rcases hu with rfl | rfl | rfl | rfl <;> rfl
      case f2 => unfold maxLen; omega
      case f3 => omega
      case f4 => have := HS.out; simp; omega
      intro v' w5 hown5 hg5 hv5
      have HO5 : Hid (w5.ownsRow w.heap.size 47 4 v' (M ++ [((⟨tm, k + 1, ls, ln⟩, Am, nm, cm) : RM)]).length (flatR (M ++ [((⟨tm, k + 1, ls, ln⟩, Am, nm, cm) : RM)]))) := Lib.hid (by
        rw [List.length_append, flatR_append, flatR_one]
        exact hown5)
      have HB5 : Hid (Below w.heap.size w w5) := Lib.hid (HB2.out.grown hg5 HB2.out.size (fun g h => (HO2.out.lt g h).1))
      clear hown5 hg5 hv5 HO2 HB2 HM HB
      go_wp2
      exact ⟨⟨k + 1, by omega, by go_num, by rw [HSN.out]; exact HO5, HB5⟩, by simp [intOf]; omega⟩
    · obtain rfl : k = l.length := by omega
      rw [List.take_length] at HO
      have HMEM := Lib.hid (fun m => mem_renum (l := l) (m := m))
      have HTOT := Lib.hid (total_renum l)
      have HLAST := Lib.hid (fun k (hk : k ≤ l.length) h0 s => lastOf_take (l := l) hk h0 s)
      have hml : (renum l).length = l.length := renum_len l
      have HAT : Hid (∀ k (h : k < l.length), (renum l)[k]? = some (setSeq l[k] (k + 1))) := Lib.hid (fun k (h : k < l.length) => by rw [List.getElem?_eq_getElem (by rw [renum_len]; exact h), renum_at h])
      have hmn : (renum l).length ≤ 1048576 := by omega
      have HML := Lib.hid hml
      generalize renum l = M at *
      obtain ⟨Am, cm, rfl, hm1, hm2, hmr⟩ := own_row HO.out (flatR_len M)
      have HRL : Hid (Rl wr Am M.length cm M ∧ Lies (fun _ => 0) (fun x => x = 0) Am M) := Lib.hid (by
        refine ⟨⟨rfl, hm1, hm2, hmr, fun m hm => ?_⟩, ⟨fun _ _ _ _ => rfl, fun _ _ _ _ _ _ => rfl⟩⟩
        obtain ⟨i, hi, rfl⟩ := HMEM.out m hm
        exact okm_setSeq ((HL.out.each _ (List.getElem_mem hi)).below HB.out) (by omega))
      have RLAT : Hid (∀ K wX, Mo (fun _ => 0) K (fun x => x = 1) wr wX → Rl wX Am M.length cm M ∧ Lies K (fun x => x = 0) Am M) := Lib.hid (fun K wX hmo => rl_mo HRL.out.1 HRL.out.2 hmo (by rintro q rfl; decide))
      unfold maxLen at hm2
      clear hmr hml HO
      obtain ⟨k, hk⟩ : ∃ k : Nat, (k : Int) = (IntKind.u64.wrap cut).tmod ((M.length : Int) + 1) ∧ k ≤ M.length := by
        refine ⟨((IntKind.u64.wrap cut).tmod ((M.length : Int) + 1)).toNat, ?_, ?_⟩
        · rw [Int.toNat_of_nonneg]
          exact Int.tmod_nonneg _ (by rw [IntKind.wrap_u64]; omega)
        · have := Int.tmod_lt_of_pos (IntKind.u64.wrap cut) (show (0 : Int) < (M.length : Int) + 1 by omega)
          omega
      obtain ⟨hk1, hk2⟩ := hk
      have hk3 := hk1.symm
      clear hk1
      have hk4 : (k : Int) ≤ (M.length : Int) := by omega
      have hk5 : (k : Int) ≤ (cm : Int) := by omega
      have hk6 : (0 : Int) ≤ (k : Int) := by omega
      have hk7 : k ≤ cm := by omega
      obtain ⟨wm, hwm⟩ : ∃ wm, wm = wr := ⟨_, rfl⟩
      subst hwm
      have CN := Lib.hid (P.new wm (fun _ => 0) 1)
      go_wp2_with fail
      refine CN.out.mono ?_
      rintro e w2 ⟨p, K2, rfl, hr2, hm2'⟩
      have HM2 := Lib.hid (hm2'.widen (S' := fun x => x = 1) (fun _ h => h.elim))
      have CA := Lib.hid (P.add w2 K2 1 p HdSpec.new (M.take k) Am k cm hr2 (rl_take (RLAT.out _ _ HM2.out).1 hk2) ((lies_take (RLAT.out _ _ HM2.out).2 k).widen (by rintro q rfl; decide)) (Nat.le_trans (total_take M k) (by rw [HTOT.out]; omega)))
      have HOKE := Lib.hid (fun e => addE_ok (h := HdSpec.new) (l := recsOf (M.take k)) e)
      have HADD := Lib.hid (fun e => add_ok (h := HdSpec.new) (l := recsOf (M.take k)) e)
      have HNOT := Lib.hid (fun e => add_not (h := HdSpec.new) (l := recsOf (M.take k)) e)
      generalize addE HdSpec.new (recsOf (M.take k)) = e1 at *
      clear CN hr2 hm2'
      go_wp2_with fail
      refine CA.out.mono ?_
      rintro e w3 ⟨rfl, K3, hr3, hm3⟩
      have HM3 := Lib.hid (HM2.out.trans hm3)
      have HR3 := Lib.hid hr3
      clear CA hr3 hm3 HM2
      by_cases he : e1 = 0
      case' pos =>
        obtain ⟨hfb, hbd, hfew⟩ := HOKE.out he
        have hS := HADD.out he
        have hkf : k ≤ 65536 := by
          have h1 : (recsOf (M.take k)).length = k := by rw [recs_len, List.length_take]; omega
          simp only [HdSpec.new, List.length_nil, h1] at hfew
          omega
        have HAL : Hid ((HdSpec.all (add HdSpec.new (recsOf (M.take k)))).length = k) := Lib.hid (by
          rw [hS]
          unfold HdSpec.all
          rw [sortR_len]
          simp only [HdSpec.new, List.nil_append, recs_len, List.length_take]
          omega)
        have HLS : Hid (0 < k → (taken (add HdSpec.new (recsOf (M.take k)))).last = some k) := Lib.hid (fun h0 => by
          rw [hS]
          exact HLAST.out k (by have := HML.out; omega) h0 _)
        have HCK : Hid (∀ x, (recsOf (M.take k))[0]? = some x → check x = 0) := Lib.hid (fun x hx => by
          obtain ⟨h0, rfl⟩ := List.getElem?_eq_some_iff.1 hx
          exact firstBad_head hfb h0)
        have HTR : Hid ((taken (add HdSpec.new (recsOf (M.take k)))).recs = []) := Lib.hid rfl
        generalize add HdSpec.new (recsOf (M.take k)) = S1 at *
        subst he
        clear hfb hbd hfew hS HOKE HADD HNOT
        have CL := Lib.hid (P.all w3 K3 1 p 3 _ HR3.out (by decide))
        go_wp2_with fail
        refine CL.out.mono ?_
        rintro e w4 ⟨v4, ms4, K4, rfl, hms4, hres4, hr4, hm4⟩
        have HM4 := Lib.hid (HM3.out.trans hm4)
        have CT := Lib.hid (P.take w4 K4 1 p 4 _ hr4 (by decide))
        have HRES4 := Lib.hid hres4
        have HMS4 := Lib.hid hms4
        obtain ⟨A4, c4, rfl, _, _⟩ := hres4.rl
        clear CL hr4 hm4 HM3 hms4 hres4 HR3
        go_wp2_with fail
        refine CT.out.mono ?_
        rintro e w5 ⟨v5, ms5, K5, rfl, hms5, hres5, hr5, hm5⟩
        have HM5 := Lib.hid (HM4.out.trans hm5)
        have hres45 := HRES4.out.mo hm5 (by decide)
        obtain ⟨A5, c5, rfl, hrl5, _⟩ := hres5.rl
        obtain ⟨A4', c4', e4, hrl4, _⟩ := hres45.rl
        cases e4
        have h5 : ms5.length = k := by rw [← HAL.out, ← hms5, recs_len]
        have CS := Lib.hid (rsamea_any w5 ms5 ms4 A5 A4 ms5.length ms4.length c5 c4 hrl5 hrl4)
        rw [hms5, HMS4.out, eqA_self] at CS
        rw [h5] at CS ⊢
        have HR5 := Lib.hid hr5
        clear CT hr5 hm5 HM4 hms5 hres5 hres45 hrl5 hrl4 HRES4 HMS4 h5
        go_wp2_with fail
        refine CS.out.mono ?_
        rintro e w6 ⟨rfl, hb6⟩
        have HM6 := Lib.hid (HM5.out.call hb6)
        have CN2 := Lib.hid (P.len w6 K5 1 p _ (P.below HR5.out hb6))
        rw [HTR.out, show ((([] : List Rec).length : Nat) : Int) = 0 from rfl] at CN2
        clear CS hb6 HM5 HR5
        go_wp2_with fail
        refine CN2.out.mono ?_
        rintro e w7 ⟨rfl, K7, hr7, hm7⟩
        have HM7 := Lib.hid (HM6.out.trans hm7)
        have CT2 := Lib.hid (P.take w7 K7 1 p 4 _ hr7 (by decide))
        clear CN2 hr7 hm7 HM6
        go_wp2_with fail
        refine CT2.out.mono ?_
        rintro e w8 ⟨v8, ms8, K8, rfl, hms8, hres8, hr8, hm8⟩
        obtain ⟨A8, c8, rfl, _, _⟩ := hres8.rl
        obtain rfl : ms8 = [] := List.eq_nil_of_length_eq_zero (by have := congrArg List.length hms8; rw [recs_len] at this; unfold HdSpec.all at this; rw [sortR_len, HTR.out] at this; exact this)
        have HM8 := Lib.hid (HM7.out.trans hm8)
        have HT : Hid (taken (taken S1) = taken S1) := Lib.hid rfl
        rw [HT.out] at hr8
        have HR8 := Lib.hid hr8
        generalize taken S1 = T at *
        clear CT2 hr8 hm8 HM7 hms8 hres8 HAL HT
        by_cases hk0 : k = 0
        case' pos =>
          have d1 : decide (0 < (k : Int)) = false := by simp; omega
          have d2 : decide (0 < k) = false := by simp; omega
          have d3 : ¬ 0 < k := by omega
          have d4 : ¬ (0 : Int) < (k : Int) := by omega
          obtain ⟨wY, hwY⟩ : ∃ wY, wY = w8 := ⟨_, rfl⟩
          obtain ⟨KY, hKY⟩ : ∃ KY, KY = K8 := ⟨_, rfl⟩
          have HRY : Hid (HeadR wY KY 1 p T) := Lib.hid (by rw [hwY, hKY]; exact HR8.out)
          have HMY : Hid (Mo (fun _ => 0) KY (fun x => x = 1) wm wY) := Lib.hid (by rw [hwY, hKY]; exact HM8.out)
          rw [← hwY]
          clear HR8 HM8 hwY hKY hk0
        case' neg =>
          have d1 : (0 : Int) < (k : Int) := by omega
          have d2 : 0 < k := by omega
          have d5 : 0 < M.length := by omega
          have d6 : (0 : Int) < (M.length : Int) := by omega
          obtain ⟨b3, o3, e3, _, _⟩ := HRL.out.1.rd (by rw [flatR_len]; omega)
          subst e3
          obtain ⟨hrl8, hli8⟩ := RLAT.out K8 w8 HM8.out
          obtain ⟨b4, o4, e4, _, hc8⟩ := hrl8.rd (by rw [flatR_len]; omega)
          cases e4
          obtain ⟨z0, z1, z2, z3⟩ := cellsR hc8 d5
          have hm0 : M[0] ∈ M := List.getElem_mem d5
          have hok0 := hrl8.each _ hm0
          have hlb0 := hli8.labs _ hm0
          have hsq : (M[0]).1.seq = 1 := by
            have h1 := HAT.out 0 (by have := HML.out; omega)
            rw [List.getElem?_eq_getElem d5] at h1
            injection h1 with h1
            rw [h1]
            rfl
          have hck : check (M[0]).1 = 0 := HCK.out _ (by
            rw [List.getElem?_eq_getElem (by rw [recs_len, List.length_take]; omega)]
            simp [recsOf])
          have hz0 : sizeR (M[0]).1 ≤ 1048576 := by
            have h1 : totalR [M[0]] ≤ totalR M := by
              have h2 := total_take M 1
              rwa [show M.take 1 = [M[0]] by rw [List.take_succ_eq_append_getElem d5]; rfl] at h2
            have h3 : totalR [M[0]] = sizeR (M[0]).1 := by simp [totalR]
            have := HTOT.out
            omega
          generalize M[0] = m at *
          have h6 : addE T [m.1] = 6 := by
            unfold addE
            rw [if_neg (by simp [firstBad, hck]), if_pos]
            rw [HLS.out d2, bad]
            simp [notMore, hsq]
            omega
          have h7 : add T [m.1] = T := add_not (by rw [h6]; decide)
          have hmo : Mo K8 (kmark K8 w8.heap.size 0) (fun _ => False) w8 (w8.alloc (.cells #[.int .i64 m.1.time, .int .u64 (m.1.seq : Int), slV m.2, S8 m.1.line] 47)) := Mo.new ((Below.refl _ w8).alloc (Nat.le_refl _) _) 0
          obtain ⟨hok9, hlb9⟩ := okm_mo hok0 hmo (fun _ _ _ _ h => h)
          have hx9 : Rl (w8.alloc (.cells #[.int .i64 m.1.time, .int .u64 (m.1.seq : Int), slV m.2, S8 m.1.line] 47)) (some ⟨w8.heap.size, 0, .none⟩) 1 1 [m] := ⟨rfl, Nat.le_refl _, by unfold maxLen; omega, Rd.made' w8 #[.int .i64 m.1.time, .int .u64 (m.1.seq : Int), slV m.2, S8 m.1.line] 47, fun x hx => by rw [List.mem_singleton.1 hx]; exact hok9⟩
          have hl9 : Lies (kmark K8 w8.heap.size 0) (fun x => x ≠ 1) (some ⟨w8.heap.size, 0, .none⟩) [m] := ⟨fun b off e _ => by cases e; rw [kmark_new (Nat.le_refl _)]; decide, fun x hx b off e hn => by
            rw [List.mem_singleton.1 hx] at e hn
            rw [hlb9 b off e hn, hlb0 b off e hn]
            decide⟩
          have CA := Lib.hid (P.add _ _ 1 p T [m] _ _ _ (P.mo HR8.out hmo (fun h => h)) hx9 hl9 (by simp [totalR]; omega))
          rw [show recsOf [m] = [m.1] from rfl, h6, h7, hsq] at CA
          have HM9 := Lib.hid (HM8.out.trans (hmo.widen (S' := fun x => x = 1) (fun _ h => h.elim)))
          rw [hsq] at HM9 z1
          rw [Nat.zero_mul, Nat.add_zero] at z0 z1 z2 z3
          unfold slV S8 at CA HM9
          unfold slV at z2
          clear hrl8 hli8 hc8 hm0 hok0 hlb0 hsq hck hz0 h6 h7 hmo hok9 hlb9 hx9 hl9 HR8 HM8
          go_wp2_with fail
          refine CA.out.mono ?_
          rintro e wY ⟨rfl, KY, hrY, hmY⟩
          have HRY := Lib.hid hrY
          have HMY := Lib.hid (HM9.out.trans hmY)
          clear CA hrY hmY HM9 z0 z1 z2 z3
        all_goals
          have HBE : Hid (Below wY.heap.size wY (wY.alloc (.cells #[] 47))) := Lib.hid ((Below.refl _ wY).alloc (Nat.le_refl _) _)
          have HOE : Hid ((wY.alloc (.cells #[] 47)).ownsRow wY.heap.size 47 4 (.slice (some ⟨wY.heap.size, 0, .none⟩) 0 0) 0 []) := Lib.hid (World.ownsRow_lit (base := wY.heap.size) (e := 47) (size := 4) wY #[] 0 (Nat.le_refl _) (by unfold maxLen; omega) rfl)
          have FD := Lib.hid (flatR_ones (M.drop k))
          by_cases hkn : k < M.length
          case' pos =>
            have hcj : ¬ cm = k := by omega
            obtain ⟨b3, o3, e3, _, _⟩ := HRL.out.1.rd (by rw [flatR_len]; omega)
            first | subst e3 | clear e3
            have HX := Lib.hid (fun K wX (h : Mo (fun _ => 0) K (fun x => x = 1) wm wX) => both_drop (RLAT.out K wX h) k)
            have F1 : Hid ((flatR (M.drop k)).length = (M.length - k) * 4) := Lib.hid (by rw [flatR_len, List.length_drop])
            have HRD := Lib.hid ((HX.out KY wY HMY.out).1.rd.alloc (Nat.le_refl _) (.cells #[] 47))
            have G1 : 0 + (M.length - k) ≤ maxLen := by unfold maxLen; omega
            have G2 : (0 + (M.length - k)) * 56 ≤ 140737488355328 := by omega
            go_wp2_with (at_builtin; refine wpList_append_rd _ rfl (.tmp 97) (.tmp 100) 28 rfl wY.heap.size 4 47 i1 (.agg #[.int .i64 0, .int .u64 0, .slice .none 0 0, .string ByteArray.empty]) 56 Tryz.underlying28 gi gz0 gz1 gz2 rfl (by omega) _ _ _ rfl HOE.out wY.heap.size _ _ _ (flatR (M.drop k)) rfl F1.out HRD.out FD.out G1 G2 (by simp) ?_)
            intro v1 w10 ho1 hg1 _
            have HO1 : Hid (w10.ownsRow wY.heap.size 47 4 v1 (M.length - k) (flatR (M.drop k))) := Lib.hid (by simpa using ho1)
            have HB1 : Hid (Below wY.heap.size wY w10) := Lib.hid (HBE.out.grown hg1 (by simp) (fun g h => (HOE.out.lt g h).1))
            clear ho1 hg1 HOE HBE

            clear HRD F1 G1 G2
          case' neg =>
            have HDE : Hid (flatR (M.drop k) = []) := Lib.hid (by rw [List.drop_eq_nil_of_le (by omega)]; rfl)
            have HDM : Hid (M.drop k = []) := Lib.hid (List.drop_eq_nil_of_le (by omega))
            have hsub : M.length - k = 0 := by omega
            by_cases hcj : cm = k
            case' pos =>
              obtain rfl : k = cm := hcj.symm
              have HX : Hid (∀ (K : Nat → Nat) wX A' c', c' ≤ maxLen → Rl wX A' 0 c' (M.drop k) ∧ Lies K (fun x => x = 0) A' (M.drop k)) := Lib.hid (fun K wX A' c' hc' => by rw [HDM.out]; exact ⟨rl_none A' hc', lies_none A'⟩)
              go_wp2_with (at_builtin; refine wpList_append_rd _ rfl (.tmp 97) (.tmp 100) 28 rfl wY.heap.size 4 47 i1 (.agg #[.int .i64 0, .int .u64 0, .slice .none 0 0, .string ByteArray.empty]) 56 Tryz.underlying28 gi gz0 gz1 gz2 rfl (by omega) _ _ _ rfl HOE.out wY.heap.size _ _ _ [] rfl (show ([] : List Value).length = 0 * 4 from rfl) Rd.nil_ (fun u hu => by cases hu) (show 0 + 0 ≤ maxLen by unfold maxLen; omega) (show (0 + 0) * 56 ≤ 140737488355328 by omega) (by simp) ?_)
              intro v1 w10 ho1 hg1 _
              have HO1 : Hid (w10.ownsRow wY.heap.size 47 4 v1 (M.length - k) (flatR (M.drop k))) := Lib.hid (by rw [HDE.out, show M.length - k = 0 by omega]; simpa using ho1)
              have HB1 : Hid (Below wY.heap.size wY w10) := Lib.hid (HBE.out.grown hg1 (by simp) (fun g h => (HOE.out.lt g h).1))
              clear ho1 hg1 HOE HBE
            case' neg =>
              have HX : Hid (∀ (K : Nat → Nat) wX A' c', c' ≤ maxLen → Rl wX A' 0 c' (M.drop k) ∧ Lies K (fun x => x = 0) A' (M.drop k)) := Lib.hid (fun K wX A' c' hc' => by rw [HDM.out]; exact ⟨rl_none A' hc', lies_none A'⟩)
              go_wp2_with (at_builtin; refine wpList_append_rd _ rfl (.tmp 97) (.tmp 100) 28 rfl wY.heap.size 4 47 i1 (.agg #[.int .i64 0, .int .u64 0, .slice .none 0 0, .string ByteArray.empty]) 56 Tryz.underlying28 gi gz0 gz1 gz2 rfl (by omega) _ _ _ rfl HOE.out wY.heap.size _ _ _ [] rfl (show ([] : List Value).length = 0 * 4 from rfl) Rd.nil_ (fun u hu => by cases hu) (show 0 + 0 ≤ maxLen by unfold maxLen; omega) (show (0 + 0) * 56 ≤ 140737488355328 by omega) (by simp) ?_)
              intro v1 w10 ho1 hg1 _
              have HO1 : Hid (w10.ownsRow wY.heap.size 47 4 v1 (M.length - k) (flatR (M.drop k))) := Lib.hid (by rw [HDE.out, show M.length - k = 0 by omega]; simpa using ho1)
              have HB1 : Hid (Below wY.heap.size wY w10) := Lib.hid (HBE.out.grown hg1 (by simp) (fun g h => (HOE.out.lt g h).1))
              clear ho1 hg1 HOE HBE
          all_goals
            have HBAD : Hid (check (⟨0, 1099511627776, [], [255]⟩ : Rec) ≠ 0) := Lib.hid (by decide +kernel)
            have hw11 : Below w10.heap.size w10 (w10.alloc (.cells #[.int .i64 0, .int .u64 1099511627776, .slice .none 0 0, .string ⟨#[255]⟩] 47)) := (Below.refl _ w10).alloc (Nat.le_refl _) _
            have HO11 := Lib.hid (LbCanon.own_keepN HO1.out hw11)
            have HB11 : Hid (Below wY.heap.size wY (w10.alloc (.cells #[.int .i64 0, .int .u64 1099511627776, .slice .none 0 0, .string ⟨#[255]⟩] 47))) := Lib.hid (HB1.out.trans (hw11.mono HB1.out.size))
            have HM11 := Lib.hid (Rd.made w10 #[.int .i64 0, .int .u64 1099511627776, .slice .none 0 0, .string ⟨#[255]⟩] 47)
            have G3 : M.length - k + 1 ≤ maxLen := by unfold maxLen; omega
            have G4 : (M.length - k + 1) * 56 ≤ 140737488355328 := by omega
            clear hw11 HO1 HB1
            go_wp2_with (at_builtin; refine wpList_append_rd _ rfl (.tmp 101) (.tmp 103) 28 rfl wY.heap.size 4 47 i1 (.agg #[.int .i64 0, .int .u64 0, .slice .none 0 0, .string ByteArray.empty]) 56 Tryz.underlying28 gi gz0 gz1 gz2 rfl (by omega) _ _ _ rfl HO11.out (w10.heap.size + 1) (some ⟨w10.heap.size, 0, .none⟩) 1 1 [.int .i64 0, .int .u64 1099511627776, .slice .none 0 0, .string ⟨#[255]⟩] rfl rfl HM11.out (by intro u hu; simp at hu; rcases hu with rfl | rfl | rfl | rfl <;> rfl) G3 G4 (by have := HB11.out.size; exact this) ?_)
            intro v2 w12 ho2 hg2 _
            obtain ⟨D, hD⟩ : ∃ D, M.drop k ++ [bare ⟨0, 1099511627776, [], [255]⟩] = D := ⟨_, rfl⟩
            have hDl : D.length = M.length - k + 1 := by rw [← hD]; simp
            have ho3 : w12.ownsRow wY.heap.size 47 4 v2 D.length (flatR D) := by
              rw [hDl, ← hD, flatR_append, flatR_one]
              try rw [show M.length - k + 1 = 1 by omega]
              exact ho2
            have hb12 : Below wY.heap.size wY w12 := HB11.out.grown hg2 HB11.out.size (fun g h => (HO11.out.lt g h).1)
            have hmo12 : Mo KY (kmark KY wY.heap.size 0) (fun _ => False) wY w12 := Mo.new hb12 0
            have HM12 := Lib.hid (HMY.out.trans (hmo12.widen (S' := fun x => x = 1) (fun _ h => h.elim)))
            obtain ⟨hrl12, hli12⟩ := RLAT.out _ _ HM12.out
            obtain ⟨A12, c12, rfl, hd1, hd2, hd3⟩ := own_row ho3 (flatR_len D)
            have hx12 : Rl w12 A12 D.length c12 D := ⟨rfl, hd1, hd2, hd3, fun m hm => by
              rw [← hD] at hm
              rcases List.mem_append.1 hm with hm | hm
              · exact hrl12.each m (List.mem_of_mem_drop hm)
              · rw [List.mem_singleton.1 hm]
                exact okm_bare w12 _ rfl (by unfold Fits Time64; simp)⟩
            have hl12 : Lies (kmark KY wY.heap.size 0) (fun x => x ≠ 1) A12 D := ⟨fun b off e hn => by
              subst e
              rcases ho3.2 with ⟨h0, _⟩ | ⟨g, cap, cur, h0, hge, _⟩
              · injection h0 with h0
                cases h0
              · injection h0 with h0
                cases h0
                rw [kmark_new hge]
                decide, fun m hm b off e hn => by
              rw [← hD] at hm
              rcases List.mem_append.1 hm with hm | hm
              · rw [hli12.labs m (List.mem_of_mem_drop hm) b off e hn]
                decide
              · rw [List.mem_singleton.1 hm] at hn
                simp at hn⟩
            have hbd : addE T (recsOf D) ≠ 0 := addE_bad (by
              rw [← hD, show recsOf (M.drop k ++ [bare ⟨0, 1099511627776, [], [255]⟩]) = recsOf (M.drop k) ++ [(⟨0, 1099511627776, [], [255]⟩ : Rec)] by simp [recsOf]]
              exact firstBad_tail HBAD.out)
            have CB := Lib.hid (P.add _ _ 1 p T D _ _ _ (P.mo HRY.out hmo12 (fun h => h)) hx12 hl12 (by
              rw [← hD, total_append]
              have h1 := total_drop M k
              have h2 := HTOT.out
              have h3 : totalR [bare ⟨0, 1099511627776, [], [255]⟩] ≤ 100 := by decide
              omega))
            rw [add_not hbd] at CB
            obtain ⟨e2, he2⟩ : ∃ e2, addE T (recsOf D) = e2 := ⟨_, rfl⟩
            rw [he2] at CB hbd
            have j5 : ((e2 : Int) == 0) = false := by simp [hbd]
            clear hD hDl ho2 ho3 hg2 hb12 hmo12 hrl12 hli12 hx12 hl12 hd1 hd2 hd3 he2 hbd HO11 HB11 HM11 HRY HMY G3 G4 HBAD
            go_wp2_with fail
            refine CB.out.mono ?_
            rintro e w13 ⟨rfl, K13, hr13, hm13⟩
            have HM13 := Lib.hid (HM12.out.trans hm13)
            have CN3 := Lib.hid (P.len w13 K13 1 p _ hr13)
            rw [HTR.out, show ((([] : List Rec).length : Nat) : Int) = 0 from rfl] at CN3
            clear CB hr13 hm13 HM12
            go_wp2_with fail
            refine CN3.out.mono ?_
            rintro e w14 ⟨rfl, K14, hr14, hm14⟩
            have HM14 := Lib.hid (HM13.out.trans hm14)
            have HR14 := Lib.hid hr14
            have CADD : Hid (∀ A' n' c', Rl w14 A' n' c' (M.drop k) → Lies K14 (fun x => x = 0) A' (M.drop k) → Calls Tryz.prog 11 #[.pointer (some ⟨p, 0, .none⟩), .slice A' n' c'] w14 fun e w' => e = .returned (.int .i64 (addE T (recsOf (M.drop k)) : Int)) ∧ HPost HeadR w14 K14 1 p (add T (recsOf (M.drop k))) w') := Lib.hid (fun A' n' c' h1 h2 => P.add w14 K14 1 p T (M.drop k) A' n' c' HR14.out h1 (h2.widen (by rintro q rfl; decide)) (by
              have h1 := total_drop M k
              have h2 := HTOT.out
              omega))
            have HNOT := Lib.hid (fun e => add_not (h := T) (l := recsOf (M.drop k)) e)
            have HOK : Hid (addE T (recsOf (M.drop k)) = 0 → (((add T (recsOf (M.drop k))).recs.length : Nat) : Int) = (M.length : Int) - (k : Int)) := Lib.hid (fun e => by
              rw [add_ok e]
              simp only [HTR.out, List.nil_append, recs_len, List.length_drop]
              omega)
            generalize addE T (recsOf (M.drop k)) = e3 at *
            generalize add T (recsOf (M.drop k)) = T2 at *
            clear CN3 hr14 hm14 HM13 j5
            go_wp2_with fail
            first
              | refine (CADD.out _ _ _ (HX.out _ _ HM14.out).1 (HX.out _ _ HM14.out).2).mono ?_
              | refine (CADD.out _ _ _ (HX.out K14 w14 _ _ (by unfold maxLen; omega)).1 (HX.out K14 w14 _ _ (by unfold maxLen; omega)).2).mono ?_
            rintro e w15 ⟨rfl, K15, hr15, hm15⟩
            have HM15 := Lib.hid (HM14.out.trans hm15)
            have CN4 := Lib.hid (P.len w15 K15 1 p _ hr15)
            clear hr15 hm15 HM14 HR14 CADD HX
            by_cases he3 : e3 = 0
            · subst he3
              rw [HOK.out (by trivial)] at CN4
              go_wp2_with fail
              refine CN4.out.mono ?_
              rintro e w16 ⟨rfl, K16, hr16, hm16⟩
              have HM16 := Lib.hid (HM15.out.trans hm16)
              have CN5 := Lib.hid (P.len w16 K16 1 p _ hr16)
              rw [HOK.out (by trivial)] at CN5
              have j6 : ((k : Int) + ((M.length : Int) - (k : Int)) == (M.length : Int)) = true := by simp; omega
              have j7 : ((M.length : Int) - (k : Int) == (M.length : Int) - (k : Int)) = true := by simp
              clear CN4 hr16 hm16 HM15
              go_wp2_with fail
              refine CN5.out.mono ?_
              rintro e w17 ⟨rfl, K17, hr17, hm17⟩
              have HBF : Hid (Below w.heap.size w w17) := Lib.hid (HB.out.trans (((HM16.out.trans hm17).below (Nat.le_refl _) (fun i _ => by decide)).mono HB.out.size))
              clear CN5 hr17 hm17 HM16
              go_wp2
              go_ret
              exact ⟨rfl, HBF.out⟩
            · rw [HNOT.out he3, HTR.out, show ((([] : List Rec).length : Nat) : Int) = 0 from rfl] at CN4
              have j6 : ((e3 : Int) != 0) = true := by simp [he3]
              go_wp2_with fail
              refine CN4.out.mono ?_
              rintro e w16 ⟨rfl, K16, hr16, hm16⟩
              have HBF : Hid (Below w.heap.size w w16) := Lib.hid (HB.out.trans (((HM15.out.trans hm16).below (Nat.le_refl _) (fun i _ => by decide)).mono HB.out.size))
              clear CN4 hr16 hm16 HM15
              go_wp2
              go_ret
              exact ⟨rfl, HBF.out⟩
      case' neg =>
        rw [HNOT.out he] at HR3
        have j1 : ((e1 : Int) != 0) = true := by simp [he]
        have CL := Lib.hid (P.len w3 K3 1 p _ HR3.out)
        rw [show ((HdSpec.new.recs.length : Nat) : Int) = 0 from rfl] at CL
        go_wp2_with fail
        refine CL.out.mono ?_
        rintro e w4 ⟨rfl, K4, hr4, hm4⟩
        have HM4 := Lib.hid (HM3.out.trans hm4)
        have CL2 := Lib.hid (P.all w4 K4 1 p 3 _ hr4 (by decide))
        clear CL hr4 hm4 HM3
        go_wp2_with fail
        refine CL2.out.mono ?_
        rintro e w5 ⟨v5, ms5, K5, rfl, hms5, hres5, hr5, hm5⟩
        obtain ⟨A5, c5, rfl, _, _⟩ := hres5.rl
        obtain rfl : ms5 = [] := List.eq_nil_of_length_eq_zero (by have := congrArg List.length hms5; simpa [recsOf, HdSpec.all, HdSpec.new, sortR] using this)
        have HM5 := Lib.hid (HM4.out.trans hm5)
        have CL3 := Lib.hid (P.take w5 K5 1 p 3 _ hr5 (by decide))
        clear CL2 hr5 hm5 HM4 hms5 hres5
        go_wp2_with fail
        refine CL3.out.mono ?_
        rintro e w6 ⟨v6, ms6, K6, rfl, hms6, hres6, hr6, hm6⟩
        obtain ⟨A6, c6, rfl, _, _⟩ := hres6.rl
        obtain rfl : ms6 = [] := List.eq_nil_of_length_eq_zero (by have := congrArg List.length hms6; simpa [recsOf, HdSpec.all, HdSpec.new, sortR] using this)
        have HM6 := Lib.hid (HM5.out.trans hm6)
        have HBF : Hid (Below w.heap.size w w6) := Lib.hid (HB.out.trans ((HM6.out.below (Nat.le_refl _) (fun i _ => by decide)).mono HB.out.size))
        clear CL3 hr6 hm6 HM5 hms6 hres6
        go_wp2
        go_ret
        exact ⟨rfl, HBF.out⟩
end Go.Proofs.YtkgmcabamhpjhaaGreat.HdTakesW
