/- The program's Terms of a record. Conditions: the record lies in memory; its line and its labels are below 2^22. -/
import Derived.Test.YtkgmcabamhpjhaaGreatHpTexts
import Derived.Test.YtkgmcabamhpjhaaGreatHdTermsF
namespace Go.Proofs.YtkgmcabamhpjhaaGreat.HpTerms
open Go Go.RowKit Words App AppN UtSpec UtOwn Less LbSpec LbMem RcAll RcMem LbOpen RcOpen HdSpec HdLaw TxSpec TxOnce HpText HdTerms
open RcSpec hiding none

set_option maxHeartbeats 3200000 in
set_option maxRecDepth 100000 in
theorem terms_any (w : World) (m : RM) (h : Okm w m) (hz : sizeR m.1 ≤ 2097152) : Calls Tryz.prog 24 #[aggR m] w (HdLaw.OPost (HdSpec.terms m.1) w) := by
  obtain ⟨⟨t, s, l, line⟩, A, n, c⟩ := m
  obtain ⟨i1, gi, gz0, gz1, gz2⟩ := info_parts info_str
  have hlb := h.labs
  have h1 : line.length ≤ 4194304 := by unfold sizeR at hz; simp only at hz; omega
  have h2 : l.length ≤ 4194304 := by unfold sizeR at hz; simp only at hz; omega
  have h3 : total l ≤ 4194304 := by unfold sizeR at hz; simp only at hz; omega
  simp only at hlb
  obtain ⟨rfl, hnc, hcm, hrd⟩ := hlb
  obtain ⟨R, hR⟩ : ∃ R, terms ⟨t, s, l, line⟩ = R := ⟨_, rfl⟩
  rw [show terms (⟨⟨t, s, l, line⟩, A, l.length, c⟩ : RM).1 = R from hR]
  have HTM : Hid (R = once (termsL ⟨t, s, l, line⟩)) := Lib.hid hR.symm
  clear hR
  have HRD := Lib.hid hrd
  have HW : Hid (Below w.heap.size w (w.alloc (.cells #[.int .i64 t, .int .u64 (s : Int), .slice A l.length c, .string ⟨line.toArray⟩] 47))) := Lib.hid ((Below.refl _ w).alloc (Nat.le_refl _) _)
  have HBOX := Lib.hid (Go.heap_alloc_new w (.cells #[.int .i64 t, .int .u64 (s : Int), .slice A l.length c, .string ⟨line.toArray⟩] 47))
  have CA := Lib.hid (words_any ⟨line.toArray⟩ (w.alloc (.cells #[.int .i64 t, .int .u64 (s : Int), .slice A l.length c, .string ⟨line.toArray⟩] 47)) (by show line.toArray.size ≤ _; simp; omega))
  unfold HpText.RPost at CA
  unfold aggR slV S8
  unfold maxLen at hcm
  simp only
  clear h hrd hz
  go_enter Tryz.func24, Tryz.ntmps24
  go_wp2_with fail
  refine CA.out.mono ?_
  rintro e w1 ⟨v, rfl, hown, hb1⟩
  have hz1 : w.heap.size < (w.alloc (.cells #[.int .i64 t, .int .u64 (s : Int), .slice A l.length c, .string ⟨line.toArray⟩] 47)).heap.size := by simp
  have HB1 : Hid (Below w.heap.size w w1) := Lib.hid (HW.out.trans (hb1.mono HW.out.size))
  have HX1 : Hid (w1.heap[w.heap.size]? = some (.cells #[.int .i64 t, .int .u64 (s : Int), .slice A l.length c, .string ⟨line.toArray⟩] 47 (0, 0))) := Lib.hid ((hb1.block w.heap.size hz1).trans HBOX.out)
  have HO1 : Hid (w1.ownsRow (w.heap.size + 1) 9 1 v (words line ++ (l.take 0).map labT).length ((words line ++ (l.take 0).map labT).map S8)) := Lib.hid (by
    rw [show (w.alloc (.cells #[.int .i64 t, .int .u64 (s : Int), .slice A l.length c, .string ⟨line.toArray⟩] 47)).heap.size = w.heap.size + 1 by simp] at hown
    simpa using hown)
  have HWL := Lib.hid (words_len line)
  have k2 := cell_of_heap (j := 2) HX1.out rfl
  clear hown hb1 CA HBOX HW hz1
  go_wp2
  clear k2
  go_loopw [3, 12] (fun vl vi wr => TRel w ⟨t, s, l, line⟩ A l.length c vl vi wr) (fun _ vi _ => l.length - (intOf vi).toNat)
  case atStart => exact ⟨0, Nat.zero_le _, rfl, HO1, HB1, HX1⟩
  case round =>
    obtain ⟨k, hk, rfl, HO, HB, HX⟩ := hrel
    simp only at hk HO HX
    by_cases hlt : k < l.length
    · obtain ⟨b1, o1, rfl, hbb, hc⟩ := HRD.out (by rw [flat_len]; omega)
      obtain ⟨q1, q2⟩ := cellsL hc hlt
      have k3 := (HB.out.cell (p := ⟨b1, o1 + k * 2, .none⟩) hbb).trans q1
      have k4 := (HB.out.cell (p := ⟨b1, o1 + k * 2 + 1, .none⟩) hbb).trans q2
      have HLT : Hid ((l.take (k + 1)).map labT = (l.take k).map labT ++ [labT l[k]]) := Lib.hid (by rw [List.take_succ_eq_append_getElem hlt, List.map_append]; rfl)
      have HLX : Hid (labT l[k] = l[k].1 ++ 61 :: l[k].2) := Lib.hid rfl
      have hn1 : k ≤ 4194304 := by omega
      have hn3 := total_at hlt
      have hn2 : (words line ++ (l.take k).map labT).length ≤ 8589934593 := by
        have := HWL.out
        simp only [List.length_append, List.length_map, List.length_take]
        omega
      generalize labT l[k] = y at *
      generalize l[k].1 = x1 at *
      generalize l[k].2 = x2 at *
      have hxa : ∀ w, (Op.stringOp .add ⟨x1.toArray⟩ { data := #[61] }).run Tryz.prog w = .ok (.string (⟨x1.toArray⟩ ++ { data := #[61] })) w := fun w => run_string_add_sum w _ _ (by simp [ByteArray.size]; omega)
      have hxb : ∀ w, (Op.stringOp .add (⟨x1.toArray⟩ ++ { data := #[61] }) ⟨x2.toArray⟩).run Tryz.prog w = .ok (.string (⟨x1.toArray⟩ ++ { data := #[61] } ++ ⟨x2.toArray⟩)) w := fun w => run_string_add_sum w _ _ (by rw [ByteArray.size_append]; simp [ByteArray.size]; omega)
      have HBY : Hid ((⟨x1.toArray⟩ : ByteArray) ++ ({ data := #[61] } : ByteArray) ++ ⟨x2.toArray⟩ = ⟨y.toArray⟩) := Lib.hid (by
        apply ByteArray.ext
        rw [HLX.out]
        simp)
      have HLT2 : Hid ((words line ++ (l.take (k + 1)).map labT) = (words line ++ (l.take k).map labT) ++ [y]) := Lib.hid (by rw [HLT.out, List.append_assoc])
      clear hc q1 q2 HLT HLX
      obtain ⟨T, hT⟩ : ∃ T, words line ++ (l.take k).map labT = T := ⟨_, rfl⟩
      rw [hT] at HO HLT2 hn2
      clear hT
      obtain ⟨At, ct, rfl, ht1, ht2, _⟩ := own_slice HO.out
      have hs1 := HB.out.size
      have hlt1 : w.heap.size < wr.heap.size := (Array.getElem?_eq_some_iff.1 HX.out).1
      have HO9 : Hid (((wr.alloc (.cells #[.string ⟨x1.toArray⟩, .string ⟨x2.toArray⟩] 70)).alloc (.cells #[.string (⟨x1.toArray⟩ ++ { data := #[61] } ++ ⟨x2.toArray⟩)] 9)).ownsRow (w.heap.size + 1) 9 1 (.slice At T.length ct) T.length (T.map S8)) := Lib.hid ((HO.out.alloc _).alloc _)
      have HME : Hid (Rd ((wr.alloc (.cells #[.string ⟨x1.toArray⟩, .string ⟨x2.toArray⟩] 70)).alloc (.cells #[.string (⟨x1.toArray⟩ ++ { data := #[61] } ++ ⟨x2.toArray⟩)] 9)) (wr.heap.size + 1 + 1) (some ⟨wr.heap.size + 1, 0, .none⟩) [.string (⟨x1.toArray⟩ ++ { data := #[61] } ++ ⟨x2.toArray⟩)]) := Lib.hid (by
        have := Rd.made (wr.alloc (.cells #[.string ⟨x1.toArray⟩, .string ⟨x2.toArray⟩] 70)) #[.string (⟨x1.toArray⟩ ++ { data := #[61] } ++ ⟨x2.toArray⟩)] 9
        simpa using this)
      go_wp2_with (at_builtin; refine wpList_append_rd _ rfl (.tmp 16) (.tmp 23) 49 rfl (w.heap.size + 1) 1 9 i1 (.string ByteArray.empty) 16 Tryz.underlying49 gi gz0 gz1 gz2 rfl (by omega) _ _ _ rfl HO9.out (wr.heap.size + 1 + 1) (some ⟨wr.heap.size + 1, 0, none⟩) 1 1 [.string (⟨x1.toArray⟩ ++ { data := #[61] } ++ ⟨x2.toArray⟩)] rfl rfl ?f0 ?f1 ?f2 ?f3 ?f4 ?_)
      case f0 => exact HME.out
      case f1 => intro u hu; simp at hu; subst hu; rfl
      case f2 => unfold maxLen; omega
      case f3 => omega
      case f4 => simp; omega
      intro v' w' hown' hg' hv'
      rw [HBY.out] at hown'
      have HO2 : Hid (w'.ownsRow (w.heap.size + 1) 9 1 v' (T ++ [y]).length ((T ++ [y]).map S8)) := Lib.hid (by rw [List.length_append, List.map_append]; exact hown')
      have HB2 : Hid (Below w.heap.size w w') := Lib.hid (((HB.out.alloc hs1 _).alloc (by simp; omega) _).grown hg' (by simp; omega) (fun g h => by have := (HO.out.lt g h).1; omega))
      have HX2 : Hid (w'.heap[w.heap.size]? = some (.cells #[.int .i64 t, .int .u64 (s : Int), .slice (some ⟨b1, o1, .none⟩) l.length c, .string ⟨line.toArray⟩] 47 (0, 0))) := Lib.hid ((hg'.block _ (by simp; omega) (fun e => by have := (HO.out.lt _ e.symm).1; omega)).trans ((Below.heap_alloc _ _ _ (by simp; omega)).trans ((Below.heap_alloc wr _ _ hlt1).trans HX.out)))
      clear hown' hg' hv' HO HB HX HO9 HME hxa hxb k3 k4
      go_wp2
      refine ⟨⟨k + 1, by show k + 1 ≤ l.length; omega, by go_num, ?_, HB2, HX2⟩, by simp [intOf]; omega⟩
      rw [HLT2.out]
      exact HO2
    · obtain rfl : k = l.length := by omega
      have HT : Hid (words line ++ (l.take l.length).map labT = termsL ⟨t, s, l, line⟩) := Lib.hid (by rw [List.take_length]; rfl)
      have hn2 : (termsL ⟨t, s, l, line⟩).length ≤ 8589934593 := by
        have := HWL.out
        unfold termsL
        simp only [List.length_append, List.length_map]
        omega
      rw [HT.out] at HO
      generalize termsL ⟨t, s, l, line⟩ = T at *
      obtain ⟨At, ct, rfl, ht1, ht2, _⟩ := own_slice HO.out
      have CS := Lib.hid (sort_any T (w.heap.size + 1) (.slice At T.length ct) wr HO.out (by omega))
      have CC := fun w2 h => Lib.hid (compact_any T (w.heap.size + 1) (.slice At T.length ct) w2 h (by omega))
      clear hk hlt HT
      go_wp2_with fail
      refine CS.out.mono ?_
      rintro e w2 ⟨rfl, hown2, hb2⟩
      have CC2 := CC w2 hown2
      have HB2 := Lib.hid (hb2 w.heap.size w (by omega) HB.out)
      clear hown2 hb2 CC CS
      go_wp2_with fail
      refine CC2.out.mono ?_
      rintro e w9 ⟨v9, rfl, hown9, hb9⟩
      have HO9 : Hid (w9.ownsRow w.heap.size 9 1 v9 (once T).length ((once T).map S8)) := Lib.hid (own_mono hown9 (by omega))
      have HB9 : Hid (Below w.heap.size w w9) := Lib.hid (hb9 w.heap.size w (by omega) HB2.out)
      clear hown9 hb9 CC2
      go_wp2
      go_ret
      exact ⟨v9, rfl, by rw [HTM.out]; exact HO9.out, HB9.out⟩
end Go.Proofs.YtkgmcabamhpjhaaGreat.HpTerms
