/- The contract of the statements' own 'awake' (the document's fixed answers are met): it answers true and changes nothing that was there. No conditions. -/
import Derived.Test.YtdfokldckgiiiaaUtFold
import Derived.Test.YtdfokldckgiiiaaUtOwn
namespace Go.Proofs.Ytdfokldckgiiiaa.UtAwake
open Go Go.RowKit UtSpec UtShelf UtSmall UtRange UtFold UtOwn

theorem valid_at (s : ByteArray) (w : World) (b : Bool) (hs : s.size ≤ maxLen) (hb : vals s.data.toList = b) : Calls Try.prog 10 #[.string s] w fun e w' => e = .returned (.bool b) ∧ Below w.heap.size w w' := by
  subst hb
  exact valid_any s w hs
theorem count_at (s : ByteArray) (w : World) (n : Nat) (hs : s.size ≤ maxLen) (hb : cnt s.data.toList = n) : Calls Try.prog 11 #[.string s] w fun e w' => e = .returned (.int .i64 (n : Int)) ∧ Below w.heap.size w w' := by
  subst hb
  exact count_any s w hs
theorem fold_at (s : ByteArray) (w : World) (F : List UInt8) (hs : s.size ≤ 281474976710656) (hb : fold s.data.toList = F) (hF : F.length + 4 ≤ 140737488355328) : Calls Try.prog 12 #[.string s] w fun e w' => e = .returned (.string ⟨F.toArray⟩) ∧ Below w.heap.size w w' := by
  subst hb
  exact fold_any s w hs hF
theorem word_at (r : Int) (w : World) (b : Bool) (hb : word r = b) : Calls Try.prog 14 #[.int .i32 r] w fun e w' => e = .returned (.bool b) ∧ w = w' := by
  subst hb
  exact word_any r w
theorem small_at (r q : Int) (w : World) (h0 : -2147483648 ≤ r) (h1 : r ≤ 2147483647) (hb : small r = q) : Calls Try.prog 16 #[.int .i32 r] w fun e w' => e = .returned (.int .i32 q) ∧ w = w' := by
  subst hb
  exact small_any r w h0 h1

set_option maxHeartbeats 1600000 in
set_option maxRecDepth 100000 in
theorem awake_any (w : World) : Calls Try.prog 8 #[] w fun e w' => e = .returned (.bool true) ∧ Below w.heap.size w w' := by
  have A1 := fun w => Lib.hid (valid_at ⟨#[195, 169]⟩ w true (by decide) (by decide +kernel))
  have A2 := fun w => Lib.hid (valid_at ⟨#[255]⟩ w false (by decide) (by decide +kernel))
  have A3 := fun w => Lib.hid (count_at ⟨#[97, 195, 169, 255]⟩ w 3 (by decide) (by decide +kernel))
  have A4 := fun w => Lib.hid (word_at 95 w true (by decide +kernel))
  have A5 := fun w => Lib.hid (word_at 45 w false (by decide +kernel))
  have A6 := fun w => Lib.hid (small_at 65 97 w (by omega) (by omega) (by decide +kernel))
  have A7 := fun w => Lib.hid (fold_at ⟨#[65, 66, 67]⟩ w [97, 98, 99] (by decide) (by decide +kernel) (by decide))
  go_enter Try.func8, Try.ntmps8
  go_wp2_with fail
  refine (A1 _).out.mono ?_
  rintro e w1 ⟨rfl, hb1⟩
  have HB1 := Lib.hid hb1
  clear hb1
  go_wp2_with fail
  refine (A2 _).out.mono ?_
  rintro e w2 ⟨rfl, hb2⟩
  have HB2 := Lib.hid (below_step HB1.out hb2)
  clear hb2
  go_wp2_with fail
  refine (A3 _).out.mono ?_
  rintro e w3 ⟨rfl, hb3⟩
  have HB3 := Lib.hid (below_step HB2.out hb3)
  clear hb3
  go_wp2_with fail
  refine (A4 _).out.mono ?_
  rintro e w' ⟨rfl, rfl⟩
  go_wp2_with fail
  refine (A5 _).out.mono ?_
  rintro e w' ⟨rfl, rfl⟩
  go_wp2_with fail
  refine (A6 _).out.mono ?_
  rintro e w' ⟨rfl, rfl⟩
  go_wp2_with fail
  refine (A7 _).out.mono ?_
  rintro e w4 ⟨rfl, hb4⟩
  have HB4 := Lib.hid (below_step HB3.out hb4)
  clear hb4
  go_wp2
  go_ret
  exact ⟨rfl, HB4.out⟩
end Go.Proofs.Ytdfokldckgiiiaa.UtAwake
