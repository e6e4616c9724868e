/- PlanAll's walk over the contracts of the program's plan. Conditions: the segments lie in memory, at most 2^47 bytes of them. -/
import Derived.Test.YtepbnclpiojoaaaPnAwake
namespace Go.Proofs.Ytepbnclpiojoaaa.PnAllW
open Go Go.RowKit Words AppN PnSpec SgMem PnRef PnGone PnMerge PnSame PnCnt PnLaw PnAwake

set_option maxHeartbeats 1600000 in
set_option maxRecDepth 100000 in
theorem all_walk (pn : Pns) (w : World) (s : Sl) (l : List Sg) (n mark : Int) (hs : Sgs w s l) (hc : ∀ x ∈ l, In64 x.count) (hm : ∀ x ∈ l, In64 x.most) (hn : In64 n) (hk : In64 mark) (hl : l.length * 32 ≤ 140737488355328) :
    Calls Try.prog 3 #[slV s, .int .i64 n, .int .i64 mark] w fun e w' => e = .returned (.bool true) ∧ Below w.heap.size w w' := by
  have HS := Lib.hid hs
  obtain ⟨A, k, c⟩ := s
  clear hs
  unfold slV
  generalize hT : tierI n = T
  generalize hB : bound n = B
  go_enter Try.func3, Try.ntmps3
  go_wp2_with fail
  refine (awake_any pn _).mono ?_
  rintro _ w1 ⟨rfl, hb1⟩
  have HB1 := Lib.hid hb1
  clear hb1
  go_wp2_with fail
  refine (pn.tier _ n hn).mono ?_
  rintro _ w2 ⟨rfl, hb2⟩
  have HB2 : Hid (Below w.heap.size w w2) := Lib.hid (HB1.out.trans (hb2.mono HB1.out.size))
  clear hb2 HB1
  rw [hT]
  go_wp2_with fail
  refine (rtier_any _ n hn).mono ?_
  rintro _ w3 ⟨rfl, hb3⟩
  have HB3 : Hid (Below w.heap.size w w3) := Lib.hid (HB2.out.trans (hb3.mono HB2.out.size))
  clear hb3 HB2
  rw [hT]
  go_wp2_with fail
  refine (pn.bound _ n hn).mono ?_
  rintro _ w4 ⟨rfl, hb4⟩
  have HB4 : Hid (Below w.heap.size w w4) := Lib.hid (HB3.out.trans (hb4.mono HB3.out.size))
  clear hb4 HB3
  rw [hB]
  go_wp2_with fail
  refine (rbound_any _ n hn).mono ?_
  rintro _ w5 ⟨rfl, hb5⟩
  have HB5 : Hid (Below w.heap.size w w5) := Lib.hid (HB4.out.trans (hb5.mono HB4.out.size))
  clear hb5 HB4
  rw [hB]
  go_wp2_with fail
  refine (pn.merge _ (A, k, c) l (HS.out.below HB5.out) hc hl).mono ?_
  rintro _ w6 ⟨⟨A6, n6, c6⟩, rfl, hs6, hb6⟩
  have HS6 := Lib.hid hs6
  have HB6 : Hid (Below w.heap.size w w6) := Lib.hid (HB5.out.trans (hb6.mono HB5.out.size))
  clear hb6 hs6 HB5
  unfold slV
  go_wp2_with fail
  refine (rmerge_any _ (A, k, c) l (HS.out.below HB6.out) hc hl).mono ?_
  rintro _ w7 ⟨hb7, v7, rfl, ho7⟩
  obtain ⟨A7, c7, rfl, hs7⟩ := own_ls ho7
  have HS6' := Lib.hid (HS6.out.below hb7)
  have HS7 := Lib.hid hs7
  have HB7 : Hid (Below w.heap.size w w7) := Lib.hid (HB6.out.trans (hb7.mono HB6.out.size))
  clear hb7 ho7 hs7 HB6 HS6
  go_wp2_with fail
  refine (rsame_any _ (A6, n6, c6) (A7, _, c7) _ _ HS6'.out HS7.out).mono ?_
  rintro _ w8 ⟨rfl, hb8⟩
  rw [decide_eq_true rfl]
  have HB8 : Hid (Below w.heap.size w w8) := Lib.hid (HB7.out.trans (hb8.mono HB7.out.size))
  clear hb8 HB7 HS6' HS7
  go_wp2_with fail
  refine (pn.gone _ (A, k, c) l mark (HS.out.below HB8.out) hm hk hl).mono ?_
  rintro _ w9 ⟨⟨A9, n9, c9⟩, rfl, hs9, hb9⟩
  have HS9 := Lib.hid hs9
  have HB9 : Hid (Below w.heap.size w w9) := Lib.hid (HB8.out.trans (hb9.mono HB8.out.size))
  clear hb9 hs9 HB8
  unfold slV
  go_wp2_with fail
  refine (rgone_any _ (A, k, c) l mark (HS.out.below HB9.out) hl).mono ?_
  rintro _ w10 ⟨hb10, v10, rfl, ho10⟩
  obtain ⟨A10, c10, rfl, hs10⟩ := own_ls ho10
  have HS9' := Lib.hid (HS9.out.below hb10)
  have HS10 := Lib.hid hs10
  have HB10 : Hid (Below w.heap.size w w10) := Lib.hid (HB9.out.trans (hb10.mono HB9.out.size))
  clear hb10 ho10 hs10 HB9 HS9
  go_wp2_with fail
  refine (rsame_any _ (A9, n9, c9) (A10, _, c10) _ _ HS9'.out HS10.out).mono ?_
  rintro _ w11 ⟨rfl, hb11⟩
  rw [decide_eq_true rfl]
  have HB11 : Hid (Below w.heap.size w w11) := Lib.hid (HB10.out.trans (hb11.mono HB10.out.size))
  clear hb11 HB10 HS9' HS10
  go_wp2
  go_ret
  exact ⟨rfl, HB11.out⟩
