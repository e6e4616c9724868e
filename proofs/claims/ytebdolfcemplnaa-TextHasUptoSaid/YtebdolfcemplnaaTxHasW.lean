/- TextHas, walked over the contracts of text's calls. -/
import Derived.Test.YtebdolfcemplnaaTxLaw
namespace Go.Proofs.Ytebdolfcemplnaa.TxHasW
open Go Go.RowKit Words UtSpec UtOwn TxSpec Less TxSame TxOnce TxHas TxAll TxLaw

set_option maxHeartbeats 800000 in
set_option maxRecDepth 100000 in
theorem both_any (P : Txt) (w : World) (hM : ML w) (l p : ByteArray) (hl : l.size ≤ 1048576) (hp : p.size ≤ 1048576) :
    Calls Try.prog 16 #[.string l, .string p] w fun e w' => e = .returned (.bool true) ∧ Below w.heap.size w w' := by
  have H1 := Lib.hid (P.has l p w hM (by omega) (by omega))
  clear hM
  have H2 := fun w => Lib.hid (has_any l p w (by omega) (by omega))
  generalize stands l.data.toList p.data.toList = b at *
  have e : (b == b) = true := by simp
  go_enter Try.func16, Try.ntmps16
  go_wp2_with fail
  refine H1.out.mono ?_
  rintro e w1 ⟨rfl, hb1⟩
  have HB1 := Lib.hid hb1
  clear hb1 H1
  go_wp2_with fail
  refine (H2 w1).out.mono ?_
  rintro e w' ⟨rfl, rfl⟩
  go_wp2
  go_ret
  exact ⟨rfl, HB1.out⟩

set_option maxHeartbeats 1600000 in
set_option maxRecDepth 100000 in
theorem walk0 (P : Txt) (w : World) (hM : ML w) (s : ByteArray) (hb : s.size ≤ 1048576) (p : ByteArray) (hbp : p.size ≤ 1048576) (a b : Int) :
    Calls Try.prog 4 #[.string s, .string p, .agg #[.int .i64 a, .int .i64 b]] w fun e w' => e = .returned (.bool true) ∧ Below w.heap.size w w' := by
  have HA := fun w h => Lib.hid (awake_any P w h)
  have HM := Lib.hid hM
  clear hM
  have HCU := fun w => Lib.hid (cut_any s a b w (by omega))
  have HH1 := fun w h => Lib.hid (both_any P w h s p hb hbp)
  go_enter Try.func4, Try.ntmps4
  go_wp2_with fail
  refine (HCU _).out.mono ?_
  rintro e w' ⟨i, m, him, rfl, rfl⟩
  have hpd : (s.extract i (i + m)).data.toList = (s.data.toList.drop i).take m := by rw [Lib.extract_data, Nat.add_sub_cancel_left]
  obtain ⟨c, hc⟩ : ∃ c, s.extract i (i + m) = c := ⟨_, rfl⟩
  have hcs : c.size ≤ 1048576 := by rw [← hc, ByteArray.size_extract]; omega
  rw [hc] at hpd ⊢
  have e2 : s.data.toList.length = s.size := by simp
  have hst : stands s.data.toList c.data.toList = true := stands_true (i := i) (by omega) (by
    rw [occ_eq, hpd, List.length_take, List.length_drop, Nat.min_eq_left (by omega)]
    simp)
  have HH2 := fun w h => Lib.hid (both_any P w h s c hb hcs)
  have HH3 := fun w h => Lib.hid (P.has s c w h (by omega) (by omega))
  rw [hst] at HH3
  have HB0 := Lib.hid ((Below.refl w.heap.size w).alloc (Nat.le_refl _) (.cells #[.int .i64 a, .int .i64 b] 29))
  clear hpd hc him e2 hst HCU
  go_wp2_with fail
  refine (HA _ (HM.out.below HB0.out)).out.mono ?_
  rintro e w1 ⟨rfl, hb1⟩
  have HB1 := Lib.hid (HB0.out.trans (hb1.mono (by simp)))
  clear hb1 HA HB0
  go_wp2_with fail
  refine (HH1 w1 (HM.out.below HB1.out)).out.mono ?_
  rintro e w2 ⟨rfl, hb2⟩
  have HB2 := Lib.hid (below_step HB1.out hb2)
  clear hb2 HH1
  go_wp2_with fail
  refine (HH2 w2 (HM.out.below HB2.out)).out.mono ?_
  rintro e w3 ⟨rfl, hb3⟩
  have HB3 := Lib.hid (below_step HB2.out hb3)
  clear hb3 HH2
  go_wp2_with fail
  refine (HH3 w3 (HM.out.below HB3.out)).out.mono ?_
  rintro e w4 ⟨rfl, hb4⟩
  have HB4 := Lib.hid (below_step HB3.out hb4)
  clear hb4 HH3
  go_wp2
  go_ret
  exact ⟨rfl, HB4.out⟩
end Go.Proofs.Ytebdolfcemplnaa.TxHasW
