/- record.Check. Conditions: none but that the labels lie in memory. -/
import Derived.Test.YtkgmcabamhpjhaaGreatLpSorts
import Derived.Test.YtkgmcabamhpjhaaGreatRpCmp
import Derived.Test.YtkgmcabamhpjhaaGreatUts
import Derived.Test.YtkgmcabamhpjhaaGreatLbRefs
namespace Go.Proofs.YtkgmcabamhpjhaaGreat.RpCheck
open Go Go.RowKit Words AppN UtSpec Less LbSpec LbText LbMem LbRef LbCmp LbCanon RcSpec RcAll RcMem RcRef UtOwn LpCanon RpCmp

theorem falls_asc : ∀ {l : List Lab}, falls l 0 → (l.map Prod.fst).Nodup → Asc l
  | [], _, _ => List.Pairwise.nil
  | [x], _, _ => by unfold Asc; simp
  | x :: y :: t, h, hd => by
    have h0 : less y.1 x.1 = false := h 0 (by simp) (Nat.le_refl _)
    have ht : falls (y :: t) 0 := fun j hj _ => h (j + 1) (by simpa using hj) (Nat.zero_le _)
    rw [List.map_cons, List.nodup_cons] at hd
    have ih := falls_asc ht hd.2
    have hxy : less x.1 y.1 = true := by
      rcases less_total (show x.1 ≠ y.1 from fun e => hd.1 (by simp [e])) with h3 | h3
      · exact h3
      · rw [h0] at h3
        cases h3
    unfold Asc at ih ⊢
    rw [List.pairwise_cons]
    refine ⟨fun z hz => ?_, ih⟩
    rcases List.mem_cons.1 hz with rfl | hz
    · exact hxy
    · rw [List.pairwise_cons] at ih
      exact less_trans hxy (ih.1 z hz)
theorem asc_falls {l : List Lab} (h : Asc l) : falls l 0 := fun j hj _ => by
  unfold Asc at h
  have h1 := List.pairwise_iff_getElem.1 h j (j + 1) (by omega) hj (by omega)
  cases h2 : less (l[j + 1]).1 (l[j]).1 with
  | false => rfl
  | true => have := less_trans h1 h2; rw [less_irrefl] at this; cases this
theorem sorted_iff {l k2 : List Lab} (h : canon l = (0, k2)) : decide (cmp k2 l = 0) = true ↔ falls l 0 := by
  rw [decide_eq_true_eq, cmp_eq]
  have hm : May l := may_iff.2 (by rw [h])
  have h2 := canon_may hm
  rw [h] at h2
  have e : k2 = sort l := (Prod.mk.inj h2).2
  subst e
  constructor
  · intro hs
    exact asc_falls (hs ▸ (may_sort hm).2)
  · intro hf
    exact sort_self (falls_asc hf hm.nodup)

set_option maxHeartbeats 3200000 in
set_option maxRecDepth 100000 in
theorem check_any (w : World) (m : RM) (h : Okm w m) : Calls Tryz.prog 26 #[aggR m] w fun e w' => e = .returned (.int .i64 (check m.1 : Int)) ∧ Below w.heap.size w w' := by
  obtain ⟨⟨t, s, l, line⟩, A, n, c⟩ := m
  have HLB := Lib.hid h.labs
  clear h
  simp only at HLB
  obtain ⟨r, hr⟩ : ∃ r, check ⟨t, s, l, line⟩ = r := ⟨_, rfl⟩
  rw [show check (⟨⟨t, s, l, line⟩, A, n, c⟩ : RM).1 = r from hr]
  unfold check at hr
  simp only at hr
  have HW : Hid (Below w.heap.size w (w.alloc (.cells #[.int .i64 t, .int .u64 (s : Int), .slice A n c, .string ⟨line.toArray⟩] 47))) := Lib.hid ((Below.refl _ w).alloc (Nat.le_refl _) _)
  have HBOX := Lib.hid (heap_alloc_new w (.cells #[.int .i64 t, .int .u64 (s : Int), .slice A n c, .string ⟨line.toArray⟩] 47))
  have HLB1 := Lib.hid (lb_keep HLB.out HW.out)
  have HCN := Lib.hid (pcanon_any _ l A c n HLB1.out)
  unfold CPost at HCN
  obtain ⟨K, hK⟩ : ∃ K, canon l = K := ⟨_, rfl⟩
  rw [hK] at HCN hr
  obtain ⟨k1, k2⟩ := K
  simp only at HCN hr
  have HK := Lib.hid hK
  have HR := Lib.hid hr
  have HZ : w.heap.size < (w.alloc (.cells #[.int .i64 t, .int .u64 (s : Int), .slice A n c, .string ⟨line.toArray⟩] 47)).heap.size := by simp
  have e2 : (⟨line.toArray⟩ : ByteArray).size = line.length := size_len line
  obtain ⟨L, hL⟩ : ∃ L, L = (⟨line.toArray⟩ : ByteArray) := ⟨_, rfl⟩
  have HLL : Hid (L.data.toList = line) := Lib.hid (by rw [hL])
  unfold aggR slV S8
  simp only [← hL] at HW HBOX HLB1 HCN HZ e2 ⊢
  have HE2 := Lib.hid e2
  clear hr hK hL HLB e2
  go_enter Tryz.func26, Tryz.ntmps26
  go_wp2_with fail
  refine HCN.out.mono ?_
  rintro e w1 ⟨v1, rfl, hown, hb1⟩
  have HB1 : Hid (Below w.heap.size w w1) := Lib.hid (HW.out.trans (hb1.mono HW.out.size))
  have hbox : w1.heap[w.heap.size]? = some (.cells #[.int .i64 t, .int .u64 (s : Int), .slice A n c, .string L] 47 (0, 0)) := (hb1.block w.heap.size HZ).trans HBOX.out
  obtain ⟨A1, c1, rfl, hlb1⟩ := own_lb hown
  have HLA := Lib.hid hlb1
  have HLR := Lib.hid (lb_keep HLB1.out hb1)
  have HX1 := Lib.hid hbox
  have k2c : w1.cell? ⟨w.heap.size, 2, none⟩ = some (.slice A n c) := by unfold World.cell?; rw [hbox]; rfl
  have k3c : w1.cell? ⟨w.heap.size, 3, none⟩ = some (.string L) := by unfold World.cell?; rw [hbox]; rfl
  clear hown hb1 hlb1 HCN HBOX hbox
  by_cases h1 : k1 = 0
  · have HS := Lib.hid (issorted_any w1 l A n c HLR.out (decide (cmp k2 l = 0)) (sorted_iff (HK.out.trans (by rw [h1]))))
    have j1 : ((k1 : Int) != 0) = false := by simp [h1]
    have hr := HR.out
    rw [if_neg (by simpa using h1)] at hr
    by_cases h2 : cmp k2 l = 0
    · rw [if_neg (by simpa using h2)] at hr
      rw [decide_eq_true h2] at HS
      have HR2 := Lib.hid hr
      clear h1 h2 hr
      go_wp2_with fail
      refine HS.out.mono ?_
      rintro e w2 ⟨rfl, hb2⟩
      have HB2 : Hid (Below w.heap.size w w2) := Lib.hid (HB1.out.trans (hb2.mono HB1.out.size))
      have hbox2 : w2.heap[w.heap.size]? = some (.cells #[.int .i64 t, .int .u64 (s : Int), .slice A n c, .string L] 47 (0, 0)) := (hb2.block w.heap.size (Array.getElem?_eq_some_iff.1 HX1.out).1).trans HX1.out
      have k4c : w2.cell? ⟨w.heap.size, 3, none⟩ = some (.string L) := by unfold World.cell?; rw [hbox2]; rfl
      clear hb2 HS k2c k3c hbox2
      by_cases h3 : 1024 < line.length
      · have j3 : (1024 : Int) < (L.size : Int) := by have := HE2.out; omega
        have HR3 : Hid (r = 4) := Lib.hid (by have h := HR2.out; rw [if_pos h3] at h; exact h.symm)
        clear h3 HR2
        go_wp2
        go_ret
        exact ⟨ret_int (by rw [HR3.out]; rfl), HB2.out⟩
      · have j3 : ¬ (1024 : Int) < (L.size : Int) := by have := HE2.out; omega
        have HRN := Lib.hid (UtRange.valid_any L w2 (by have := HE2.out; unfold maxLen; omega))
        have HR3 : Hid ((if vals line = true then 0 else 8) = r) := Lib.hid (by have h := HR2.out; rwa [if_neg h3] at h)
        rw [HLL.out] at HRN
        obtain ⟨b, hb⟩ : ∃ b, vals line = b := ⟨_, rfl⟩
        rw [hb] at HR3 HRN
        clear h3 HR2 hb
        cases b with
        | true =>
          go_wp2_with fail
          refine HRN.out.mono ?_
          rintro e w3 ⟨rfl, hb3⟩
          have HB3 : Hid (Below w.heap.size w w3) := Lib.hid (HB2.out.trans (hb3.mono HB2.out.size))
          clear hb3 HRN
          go_wp2
          go_ret
          exact ⟨ret_int (by have h := HR3.out; simp at h; omega), HB3.out⟩
        | false =>
          go_wp2_with fail
          refine HRN.out.mono ?_
          rintro e w3 ⟨rfl, hb3⟩
          have HB3 : Hid (Below w.heap.size w w3) := Lib.hid (HB2.out.trans (hb3.mono HB2.out.size))
          clear hb3 HRN
          go_wp2
          go_ret
          exact ⟨ret_int (by have h := HR3.out; simp at h; omega), HB3.out⟩
    · rw [if_pos (by simpa using h2)] at hr
      rw [decide_eq_false h2] at HS
      have HR2 := Lib.hid hr
      clear h1 h2 hr
      go_wp2_with fail
      refine HS.out.mono ?_
      rintro e w2 ⟨rfl, hb2⟩
      have HB2 : Hid (Below w.heap.size w w2) := Lib.hid (HB1.out.trans (hb2.mono HB1.out.size))
      clear hb2 HS
      go_wp2
      go_ret
      exact ⟨ret_int (by rw [← HR2.out]; rfl), HB2.out⟩
  · have j1 : ((k1 : Int) != 0) = true := by simp [h1]
    have HR2 : Hid (r = k1) := Lib.hid (by have h := HR.out; rw [if_pos (by simpa using h1)] at h; exact h.symm)
    clear h1
    go_wp2
    go_ret
    exact ⟨ret_int (by rw [HR2.out]), HB1.out⟩

end Go.Proofs.YtkgmcabamhpjhaaGreat.RpCheck
