/- TextInner, walked over the contracts of text's calls. -/
import Derived.Test.YtebdolfcemplnaaTxLaw
import Derived.Test.YtebdolfcemplnaaUtRange
namespace Go.Proofs.Ytebdolfcemplnaa.TxInnerW
open Go Go.RowKit Words UtSpec UtOwn UtRange TxSpec Less TxSame TxOnce TxHas TxAll TxLaw

theorem within_yes (la lb : List (List UInt8)) (w : World) (A1 A2 : Option Addr) (c1 c2 n1 n2 B1 B2 : Nat) (e1 : n1 = la.length) (e2 : n2 = lb.length) (hs : ∀ z ∈ la, z ∈ lb) (h1 : Rd w B1 A1 (la.map S8)) (h2 : Rd w B2 A2 (lb.map S8)) (hm1 : la.length ≤ c1) (hm2 : lb.length ≤ c2) (hc1 : c1 ≤ maxLen) (hc2 : c2 ≤ maxLen) :
    Calls Try.prog 19 #[.slice A1 n1 c1, .slice A2 n2 c2] w fun e w' => e = .returned (.bool true) ∧ Below w.heap.size w w' := by
  subst e1
  subst e2
  have h := within_any w la lb A1 A2 c1 c2 B1 B2 h1 h2 hm1 hm2 hc1 hc2
  have e : (la.all fun x => isin x lb) = true := by
    rw [List.all_eq_true]
    intro z hz
    unfold isin
    rw [List.any_eq_true]
    exact ⟨z, hs z hz, by simp⟩
  rw [e] at h
  exact h
theorem inner_words (s : List UInt8) : ∀ w ∈ inners s, w ∈ words s := by
  intro w hw
  unfold inners at hw
  obtain ⟨p, hp, rfl⟩ := List.mem_map.1 hw
  unfold words
  rw [← runsA_fst (rs s) [] false, List.map_map]
  exact List.mem_map.2 ⟨p, (List.mem_filter.1 hp).1, rfl⟩
theorem cut_data (s : ByteArray) (i n : Nat) : (s.extract i (i + n)).data.toList = (s.data.toList.drop i).take n := by
  rw [Lib.extract_data, Nat.add_sub_cancel_left]
theorem valid_at (s : ByteArray) (w : World) (b : Bool) (hs : s.size ≤ maxLen) (hb : vals s.data.toList = b) : Calls Try.prog 18 #[.string s] w fun e w' => e = .returned (.bool b) ∧ Below w.heap.size w w' := by
  subst hb
  exact valid_any s w hs

set_option maxHeartbeats 3200000 in
set_option maxRecDepth 100000 in
theorem walk0 (P : Txt) (w : World) (hM : ML w) (s : ByteArray) (hb : s.size ≤ 1048576) (at_ n : Int) :
    Calls Try.prog 5 #[.string s, .int .i64 at_, .int .i64 n] w fun e w' => e = .returned (.bool true) ∧ Below w.heap.size w w' := by
  have HA := Lib.hid (awake_any P w hM)
  clear hM
  have HCU := fun w => Lib.hid (cut_any s at_ n w (by omega))
  have H1 := fun w b hv => Lib.hid (valid_at s w b (by unfold maxLen; omega) hv)
  have H3 := fun w => Lib.hid (P.set s w (by omega))
  unfold LPost at H3
  go_enter Try.func5, Try.ntmps5
  go_wp2_with fail
  refine HA.out.mono ?_
  rintro e w1 ⟨rfl, hb1⟩
  have HB1 := Lib.hid hb1
  clear hb1 HA
  go_wp2_with fail
  refine (HCU w1).out.mono ?_
  rintro e w' ⟨i, m, him, rfl, rfl⟩
  have hpd := cut_data s i m
  obtain ⟨p, hp⟩ : ∃ p, s.extract i (i + m) = p := ⟨_, rfl⟩
  have hps : p.size ≤ 1048576 := by rw [← hp, ByteArray.size_extract]; omega
  rw [hp] at hpd ⊢
  have e2 : s.data.toList.length = s.size := by simp
  have HSUB : Hid (vals s.data.toList = true → vals p.data.toList = true → ∀ z ∈ inners p.data.toList, z ∈ words s.data.toList) := Lib.hid (fun hl hv => by
    rw [hpd] at hv ⊢
    exact inner_sub (line := s.data.toList) hl (i := i) (n := m) (by omega) hv)
  clear hpd hp him HCU e2
  cases hvs : vals s.data.toList with
  | false =>
    have V1 := Lib.hid (H1 w1 false hvs).out
    clear hvs H1 H3 HSUB
    go_wp2_with fail
    refine V1.out.mono ?_
    rintro e w2 ⟨rfl, hb2⟩
    have HB2 := Lib.hid (below_step HB1.out hb2)
    clear hb2
    go_wp2
    go_ret
    exact ⟨rfl, HB2.out⟩
  | true =>
    have V1 := Lib.hid (H1 w1 true hvs).out
    cases hvp : vals p.data.toList with
    | false =>
      have V2 := fun w => Lib.hid (valid_at p w false (by unfold maxLen; omega) hvp)
      clear hvs hvp H1 H3 HSUB
      go_wp2_with fail
      refine V1.out.mono ?_
      rintro e w2 ⟨rfl, hb2⟩
      have HB2 := Lib.hid (below_step HB1.out hb2)
      clear hb2
      go_wp2_with fail
      refine (V2 w2).out.mono ?_
      rintro e w3 ⟨rfl, hb3⟩
      have HB3 := Lib.hid (below_step HB2.out hb3)
      clear hb3
      go_wp2
      go_ret
      exact ⟨rfl, HB3.out⟩
    | true =>
      have V2 := fun w => Lib.hid (valid_at p w true (by unfold maxLen; omega) hvp)
      have HSL := HSUB.out hvs hvp
      have P1 := fun w => Lib.hid (P.inner p w (by omega))
      have P2 := fun w => Lib.hid (P.set p w (by omega))
      have hO : ((⟨#[32]⟩ : ByteArray) ++ p ++ ⟨#[45]⟩).data.toList = 32 :: (p.data.toList ++ [45]) := by simp
      have hOs : ((⟨#[32]⟩ : ByteArray) ++ p ++ ⟨#[45]⟩).size ≤ 1048578 := by
        rw [ByteArray.size_append, ByteArray.size_append]
        have z1 : (⟨#[32]⟩ : ByteArray).size = 1 := rfl
        have z2 : (⟨#[45]⟩ : ByteArray).size = 1 := rfl
        omega
      obtain ⟨O, hOO⟩ : ∃ O, (⟨#[32]⟩ : ByteArray) ++ p ++ ⟨#[45]⟩ = O := ⟨_, rfl⟩
      rw [hOO] at hO hOs
      have hIO : inners O.data.toList = words p.data.toList := by rw [hO]; exact inners_marks p.data.toList (x := 32) (y := 45) (by decide) (by decide) (by decide) (by decide)
      have P3 := fun w => Lib.hid (P.inner O w (by omega))
      rw [hIO] at P3
      unfold LPost at P1 P2 P3
      have W1 := fun w A1 A2 c1 c2 h1 h2 m1 m2 k1 k2 => Lib.hid (within_yes (once (inners p.data.toList)) (once (words s.data.toList)) w A1 A2 c1 c2 _ _ w.heap.size w.heap.size rfl rfl (fun z hz => mem_once.2 (HSL z (mem_once.1 hz))) h1 h2 m1 m2 k1 k2)
      have W2 := fun w A1 A2 c1 c2 h1 h2 m1 m2 k1 k2 => Lib.hid (within_yes (once (inners p.data.toList)) (once (words p.data.toList)) w A1 A2 c1 c2 _ _ w.heap.size w.heap.size rfl rfl (fun z hz => mem_once.2 (inner_words _ z (mem_once.1 hz))) h1 h2 m1 m2 k1 k2)
      have W3 := fun w A1 A2 c1 c2 h1 h2 m1 m2 k1 k2 => Lib.hid (same_eq (once (words p.data.toList)) w A1 A2 c1 c2 _ _ w.heap.size w.heap.size rfl rfl h1 h2 m1 m2 k1 k2)
      clear hvs hvp H1 HSUB HSL hO hOs hIO
      generalize once (inners p.data.toList) = IP at *
      generalize once (words p.data.toList) = WP at *
      generalize once (words s.data.toList) = WS at *
      go_wp2_with fail
      refine V1.out.mono ?_
      rintro e w2 ⟨rfl, hb2⟩
      have HB2 := Lib.hid (below_step HB1.out hb2)
      clear hb2
      go_wp2_with fail
      refine (V2 w2).out.mono ?_
      rintro e w3 ⟨rfl, hb3⟩
      have HB3 := Lib.hid (below_step HB2.out hb3)
      clear hb3
      go_wp2_with fail
      refine (P1 w3).out.mono ?_
      rintro e w4 ⟨A4, c4, rfl, hc4, hm4, hr4, hb4⟩
      have HB4 := Lib.hid (below_step HB3.out hb4)
      have HR4 := Lib.hid hr4
      have HC4 := Lib.hid (And.intro hc4 hm4)
      clear hb4 hr4 hc4 hm4
      go_wp2_with fail
      refine (H3 w4).out.mono ?_
      rintro e w5 ⟨A5, c5, rfl, hc5, hm5, hr5, hb5⟩
      have HB5 := Lib.hid (below_step HB4.out hb5)
      have T1 := Lib.hid (W1 w5 A4 A5 c4 c5 (rd_keep HR4.out hb5) hr5 HC4.out.1 hc5 HC4.out.2 hm5).out
      clear hb5 hr5 hc5 hm5 HR4 HC4 W1 H3
      go_wp2_with fail
      refine T1.out.mono ?_
      rintro e w6 ⟨rfl, hb6⟩
      have HB6 := Lib.hid (below_step HB5.out hb6)
      clear hb6 T1
      go_wp2_with fail
      refine (P1 w6).out.mono ?_
      rintro e w7 ⟨A7, c7, rfl, hc7, hm7, hr7, hb7⟩
      have HB7 := Lib.hid (below_step HB6.out hb7)
      have HR7 := Lib.hid hr7
      have HC7 := Lib.hid (And.intro hc7 hm7)
      clear hb7 hr7 hc7 hm7
      go_wp2_with fail
      refine (P2 w7).out.mono ?_
      rintro e w8 ⟨A8, c8, rfl, hc8, hm8, hr8, hb8⟩
      have HB8 := Lib.hid (below_step HB7.out hb8)
      have T2 := Lib.hid (W2 w8 A7 A8 c7 c8 (rd_keep HR7.out hb8) hr8 HC7.out.1 hc8 HC7.out.2 hm8).out
      clear hb8 hr8 hc8 hm8 HR7 HC7 W2
      go_wp2_with fail
      refine T2.out.mono ?_
      rintro e w9 ⟨rfl, hb9⟩
      have HB9 := Lib.hid (below_step HB8.out hb9)
      clear hb9 T2
      go_wp2_with fail
      refine (P3 w9).out.mono ?_
      rintro e w10 ⟨A10, c10, rfl, hc10, hm10, hr10, hb10⟩
      have HB10 := Lib.hid (below_step HB9.out hb10)
      have HR10 := Lib.hid hr10
      have HC10 := Lib.hid (And.intro hc10 hm10)
      clear hb10 hr10 hc10 hm10
      go_wp2_with fail
      refine (P2 w10).out.mono ?_
      rintro e w11 ⟨A11, c11, rfl, hc11, hm11, hr11, hb11⟩
      have HB11 := Lib.hid (below_step HB10.out hb11)
      have T3 := Lib.hid (W3 w11 A10 A11 c10 c11 (rd_keep HR10.out hb11) hr11 HC10.out.1 hc11 HC10.out.2 hm11).out
      clear hb11 hr11 hc11 hm11 HR10 HC10 W3
      go_wp2_with fail
      refine T3.out.mono ?_
      rintro e w12 ⟨rfl, hb12⟩
      have HB12 := Lib.hid (below_step HB11.out hb12)
      clear hb12 T3
      go_wp2
      go_ret
      exact ⟨rfl, HB12.out⟩
end Go.Proofs.Ytebdolfcemplnaa.TxInnerW
