/- LabelLists, walked over the contracts of label's calls. -/
import Derived.Test.YtngkhcbnndkdeaaLbLaw
namespace Go.Proofs.Ytngkhcbnndkdeaa.LbListsW
open Go Go.RowKit Words AppN UtSpec Less LbSpec LbText LbMem LbRef LbCmp LbCanon LbWrite LbLaw UtOwn

set_option maxHeartbeats 3200000 in
set_option maxRecDepth 100000 in
theorem walk0 (P : Lbl) (w : World) (a b : List Lab) (A B : Option Addr) (c d m k : Nat) (ha : Lb w A m c a) (hb : Lb w B k d b) (n : List UInt8) (hw : (write a).length ≤ 16777216) (hM : Ml.ML w) (hs : ∀ x ∈ a, x.2.length ≤ 140737488355328) :
    Calls Try.prog 3 #[.slice A m c, .slice B k d, S8 n] w fun e w' => e = .returned (.bool true) ∧ Below w.heap.size w w' := by
  have A0 := Lib.hid (awake_any P w hM)
  have A1 := fun w h => Lib.hid ((P.canon w a A c m h).mono fun _ _ h => cpost_q h)
  have A2 := fun w h => Lib.hid ((rcanon_any w a A c m h).mono fun _ _ h => cpost_q h)
  have A3 := fun w h => Lib.hid (P.find w a A c m n h hs)
  have A4 := fun w h => Lib.hid (rfind_any w a A c m n h)
  have A5 := fun w x y X Y p q e f h1 h2 => Lib.hid (rsame_any w x y X Y p q e f h1 h2)
  have A6 := fun w h1 h2 => Lib.hid (P.compare w a b A B m k c d h1 h2)
  have A7 := fun w h1 h2 => Lib.hid (rcmp_any w a b A B m k c d h1 h2)
  have A8 := fun w h => Lib.hid (P.write w a A c m h hw)
  have A9 := fun w h => Lib.hid (rwrite_any w a A c m h (by omega))
  unfold QPost at A1 A2
  have HA := Lib.hid ha
  have HB := Lib.hid hb
  obtain ⟨r, s⟩ : ∃ r, canon a = r := ⟨_, rfl⟩
  rw [s] at A1 A2
  clear s ha hb hw
  generalize find a n = fn at *
  generalize cmp a b = cr at *
  generalize write a = wa at *
  obtain ⟨en, lr⟩ := r
  simp only at A1 A2
  generalize fn.getD [] = fv at *
  generalize fn.isSome = fs at *
  unfold S8 at *
  go_enter Try.func3, Try.ntmps3
  go_wp2_with fail
  refine A0.out.mono ?_
  rintro e w1 ⟨rfl, hb1⟩
  have HB1 := Lib.hid hb1
  have HA1 := Lib.hid (lb_below HA.out hb1)
  have HC1 := Lib.hid (lb_below HB.out hb1)
  clear hb1 A0 HA HB
  go_wp2_with fail
  refine (A1 w1 HA1.out).out.mono ?_
  rintro e w2 ⟨X, cx, rfl, hx, hb2⟩
  have HB2 := Lib.hid (below_step HB1.out hb2)
  have HA2 := Lib.hid (lb_below HA1.out hb2)
  have HC2 := Lib.hid (lb_below HC1.out hb2)
  have HX2 := Lib.hid hx
  clear hb2 hx A1 HA1 HC1
  go_wp2_with fail
  refine (A2 w2 HA2.out).out.mono ?_
  rintro e w3 ⟨Y, cy, rfl, hy, hb3⟩
  have HB3 := Lib.hid (below_step HB2.out hb3)
  have HA3 := Lib.hid (lb_below HA2.out hb3)
  have HC3 := Lib.hid (lb_below HC2.out hb3)
  have HX3 := Lib.hid (lb_below HX2.out hb3)
  have HY3 := Lib.hid hy
  clear hb3 hy A2 HA2 HC2 HX2
  go_wp2_with fail
  refine (A3 w3 HA3.out).out.mono ?_
  rintro e w4 ⟨rfl, hb4⟩
  have HB4 := Lib.hid (below_step HB3.out hb4)
  have HA4 := Lib.hid (lb_below HA3.out hb4)
  have HC4 := Lib.hid (lb_below HC3.out hb4)
  have HX4 := Lib.hid (lb_below HX3.out hb4)
  have HY4 := Lib.hid (lb_below HY3.out hb4)
  clear hb4 A3 HA3 HC3 HX3 HY3
  go_wp2_with fail
  refine (A4 w4 HA4.out).out.mono ?_
  rintro e w' ⟨rfl, rfl⟩
  have A5' := A5 w4 _ _ _ _ _ _ _ _ HX4.out HY4.out
  rw [show (lr == lr) = true by simp] at A5'
  clear A5 A4
  go_wp2_with fail
  refine A5'.out.mono ?_
  rintro e w5 ⟨rfl, hb5⟩
  have HB5 := Lib.hid (below_step HB4.out hb5)
  have HA5 := Lib.hid (lb_below HA4.out hb5)
  have HC5 := Lib.hid (lb_below HC4.out hb5)
  clear hb5 A5' HA4 HC4 HX4 HY4
  go_wp2_with fail
  refine (A6 w5 HA5.out HC5.out).out.mono ?_
  rintro e w6 ⟨rfl, hb6⟩
  have HB6 := Lib.hid (below_step HB5.out hb6)
  have HA6 := Lib.hid (lb_below HA5.out hb6)
  have HC6 := Lib.hid (lb_below HC5.out hb6)
  clear hb6 A6 HA5 HC5
  go_wp2_with fail
  refine (A7 w6 HA6.out HC6.out).out.mono ?_
  rintro e w7 ⟨rfl, hb7⟩
  have HB7 := Lib.hid (below_step HB6.out hb7)
  have HA7 := Lib.hid (lb_below HA6.out hb7)
  clear hb7 A7 HA6 HC6
  go_wp2_with fail
  refine (A8 w7 HA7.out).out.mono ?_
  rintro e w8 ⟨rfl, hb8⟩
  have HB8 := Lib.hid (below_step HB7.out hb8)
  have HA8 := Lib.hid (lb_below HA7.out hb8)
  clear hb8 A8 HA7
  go_wp2_with fail
  refine (A9 w8 HA8.out).out.mono ?_
  rintro e w' ⟨rfl, rfl⟩
  go_wp2
  go_ret
  exact ⟨rfl, HB8.out⟩
end Go.Proofs.Ytngkhcbnndkdeaa.LbListsW
