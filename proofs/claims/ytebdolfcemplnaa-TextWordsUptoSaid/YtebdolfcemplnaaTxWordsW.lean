/- TextWords, walked over the contracts of text's calls. -/
import Derived.Test.YtebdolfcemplnaaTxLaw
namespace Go.Proofs.Ytebdolfcemplnaa.TxWordsW
open Go Go.RowKit Words UtSpec UtOwn TxSpec Less TxSame TxOnce TxHas TxAll TxLaw

set_option maxHeartbeats 3200000 in
set_option maxRecDepth 100000 in
theorem walk0 (P : Txt) (w : World) (hM : ML w) (s : ByteArray) (hb : s.size ≤ 1073741824) :
    Calls Try.prog 3 #[.string s] w fun e w' => e = .returned (.bool true) ∧ Below w.heap.size w w' := by
  have HA := Lib.hid (awake_any P w hM)
  clear hM
  have H1 := fun w => Lib.hid (all_words s w (by omega))
  have H2 := fun w => Lib.hid (P.words s w hb)
  have H3 := fun w => Lib.hid (P.set s w hb)
  have H4 := fun w => Lib.hid (P.inner s w hb)
  have H5 := fun w => Lib.hid (all_inners s w (by omega))
  have e2 : s.data.toList.length = s.size := by simp
  have hwl := words_len s.data.toList
  have hil := inners_len s.data.toList
  rw [e2] at hwl hil
  unfold LPost at *
  generalize words s.data.toList = W at *
  generalize inners s.data.toList = I at *
  have HO1 := fun w A n c hn h1 hm hc => Lib.hid (once_l W w A n c hn h1 hm hc (by omega))
  have HO2 := fun w A n c hn h1 hm hc => Lib.hid (once_l I w A n c hn h1 hm hc (by omega))
  have HS1 := fun w A1 A2 c1 c2 h1 h2 m1 m2 k1 k2 => Lib.hid (same_eq W w A1 A2 c1 c2 W.length W.length w.heap.size w.heap.size rfl rfl h1 h2 m1 m2 k1 k2)
  unfold LPost at HO1 HO2
  generalize hOW : once W = OW at *
  generalize hOI : once I = OI at *
  have HS2 := fun w A1 A2 c1 c2 h1 h2 m1 m2 k1 k2 => Lib.hid (same_eq OW w A1 A2 c1 c2 OW.length OW.length w.heap.size w.heap.size rfl rfl h1 h2 m1 m2 k1 k2)
  have HS3 := fun w A1 A2 c1 c2 h1 h2 m1 m2 k1 k2 => Lib.hid (same_eq OI w A1 A2 c1 c2 OI.length OI.length w.heap.size w.heap.size rfl rfl h1 h2 m1 m2 k1 k2)
  clear hOW hOI e2
  go_enter Try.func3, Try.ntmps3
  go_wp2_with fail
  refine HA.out.mono ?_
  rintro e w1 ⟨rfl, hb1⟩
  have HB1 := Lib.hid hb1
  clear hb1 HA
  go_wp2_with fail
  refine (H1 w1).out.mono ?_
  rintro e w2 ⟨A2, c2, rfl, hc2, hm2, hr2, hb2⟩
  have HB2 := Lib.hid (below_step HB1.out hb2)
  have HR2 := Lib.hid hr2
  have HC2 := Lib.hid (And.intro hc2 hm2)
  clear hb2 hr2 hc2 hm2 H1
  go_wp2_with fail
  refine (H2 w2).out.mono ?_
  rintro e w3 ⟨A3, c3, rfl, hc3, hm3, hr3, hb3⟩
  have HB3 := Lib.hid (below_step HB2.out hb3)
  have HR23 := Lib.hid (rd_keep HR2.out hb3)
  have T1 := Lib.hid (HS1 w3 A3 A2 c3 c2 hr3 HR23.out hc3 HC2.out.1 hm3 HC2.out.2).out
  clear hb3 hr3 hc3 hm3 H2 HR2 HS1
  go_wp2_with fail
  refine T1.out.mono ?_
  rintro e w4 ⟨rfl, hb4⟩
  have HB4 := Lib.hid (below_step HB3.out hb4)
  have HR24 := Lib.hid (rd_keep HR23.out hb4)
  clear hb4 HR23 T1
  go_wp2_with fail
  refine (H3 w4).out.mono ?_
  rintro e w5 ⟨A5, c5, rfl, hc5, hm5, hr5, hb5⟩
  have HB5 := Lib.hid (below_step HB4.out hb5)
  have HR25 := Lib.hid (rd_keep HR24.out hb5)
  have T2 := Lib.hid (HO1 w5 A2 W.length c2 rfl HR25.out HC2.out.1 HC2.out.2).out
  have HR5 := Lib.hid hr5
  have HC5 := Lib.hid (And.intro hc5 hm5)
  clear hb5 hr5 hc5 hm5 H3 HR24 HO1
  go_wp2_with fail
  refine T2.out.mono ?_
  rintro e w6 ⟨A6, c6, rfl, hc6, hm6, hr6, hb6⟩
  have HB6 := Lib.hid (below_step HB5.out hb6)
  have HR56 := Lib.hid (rd_keep HR5.out hb6)
  have T3 := Lib.hid (HS2 w6 A5 A6 c5 c6 HR56.out hr6 HC5.out.1 hc6 HC5.out.2 hm6).out
  clear hb6 hr6 hc6 hm6 HR5 T2 HS2
  go_wp2_with fail
  refine T3.out.mono ?_
  rintro e w7 ⟨rfl, hb7⟩
  have HB7 := Lib.hid (below_step HB6.out hb7)
  clear hb7 T3
  go_wp2_with fail
  refine (H4 w7).out.mono ?_
  rintro e w8 ⟨A8, c8, rfl, hc8, hm8, hr8, hb8⟩
  have HB8 := Lib.hid (below_step HB7.out hb8)
  have HR8 := Lib.hid hr8
  have HC8 := Lib.hid (And.intro hc8 hm8)
  clear hb8 hr8 hc8 hm8 H4
  go_wp2_with fail
  refine (H5 w8).out.mono ?_
  rintro e w9 ⟨A9, c9, rfl, hc9, hm9, hr9, hb9⟩
  have HB9 := Lib.hid (below_step HB8.out hb9)
  have HR89 := Lib.hid (rd_keep HR8.out hb9)
  have T4 := Lib.hid (HO2 w9 A9 I.length c9 rfl hr9 hc9 hm9).out
  clear hb9 hr9 hc9 hm9 H5 HR8 HO2
  go_wp2_with fail
  refine T4.out.mono ?_
  rintro e w10 ⟨A10, c10, rfl, hc10, hm10, hr10, hb10⟩
  have HB10 := Lib.hid (below_step HB9.out hb10)
  have HR810 := Lib.hid (rd_keep HR89.out hb10)
  have T5 := Lib.hid (HS3 w10 A8 A10 c8 c10 HR810.out hr10 HC8.out.1 hc10 HC8.out.2 hm10).out
  clear hb10 hr10 hc10 hm10 HR89 T4 HS3
  go_wp2_with fail
  refine T5.out.mono ?_
  rintro e w11 ⟨rfl, hb11⟩
  have HB11 := Lib.hid (below_step HB10.out hb11)
  clear hb11 T5
  go_wp2
  go_ret
  exact ⟨rfl, HB11.out⟩
end Go.Proofs.Ytebdolfcemplnaa.TxWordsW
