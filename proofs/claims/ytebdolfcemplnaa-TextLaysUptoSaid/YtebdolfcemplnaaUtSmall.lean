/- The contracts of utf.in, utf.Small, utf.Word and of the document's Small and Word: small forms and word runes. Conditions: 32 bits, where the small form is asked for. -/
import Derived.Test.YtebdolfcemplnaaUtShelf
import Derived.Test.YtebdolfcemplnaaUtSpec
import Derived.WalkKit
import Derived.IntWalk
import Derived.Outline
namespace Go.Proofs.Ytebdolfcemplnaa.UtSmall
open Go Go.RowKit UtSpec UtShelf

theorem ret_int {k : IntKind} {a b : Int} (h : a = b) : Ending.returned (.int k a) = .returned (.int k b) := by rw [h]
theorem ret_bool {a b : Bool} (h : a = b) : Ending.returned (.bool a) = .returned (.bool b) := by rw [h]

/-- utf.in. -/
theorem in_any (r a b : Int) (w : World) : Calls Try.prog 47 #[.int .i32 r, .int .i32 a, .int .i32 b] w fun e w' => e = .returned (.bool (inB r a b)) ∧ w = w' := by
  by_cases h1 : a ≤ r
  · by_cases h2 : r ≤ b
    · have e : inB r a b = true := by unfold inB; simp [h1, h2]
      rw [e]
      go_enter Try.func47, Try.ntmps47
      go_wp2
      go_ret
      exact ⟨rfl, rfl⟩
    · have e : inB r a b = false := by unfold inB; simp [h2]
      rw [e]
      go_enter Try.func47, Try.ntmps47
      go_wp2
      go_ret
      exact ⟨rfl, rfl⟩
  · have e : inB r a b = false := by unfold inB; simp [h1]
    rw [e]
    go_enter Try.func47, Try.ntmps47
    go_wp2
    go_ret
    exact ⟨rfl, rfl⟩

theorem inB_true {r a b : Int} (h : inB r a b = true) : a ≤ r ∧ r ≤ b := by unfold inB at h; simpa using h
theorem inB_false {r a b : Int} (h : inB r a b = false) : r < a ∨ b < r := by unfold inB at h; simp at h; omega

set_option maxHeartbeats 800000 in
/-- utf.Small. -/
theorem small_any (r : Int) (w : World) (h0 : -2147483648 ≤ r) (h1 : r ≤ 2147483647) : Calls Try.prog 36 #[.int .i32 r] w fun e w' => e = .returned (.int .i32 (small r)) ∧ w = w' := by
  go_enter Try.func36, Try.ntmps36
  go_wp2_with (go_at_call 47; refine (in_any _ _ _ _).mono ?_; rintro e w' ⟨rfl, rfl⟩)
  all_goals
    go_ret
    refine ⟨ret_int ?_, rfl⟩
    simp only [inB, Bool.and_eq_true, Bool.and_eq_false_iff, decide_eq_true_eq, decide_eq_false_iff_not, beq_iff_eq, beq_eq_false_iff_ne, ne_eq] at *
    try unfold wrap32
    unfold small
    repeat' split
  all_goals omega

set_option maxHeartbeats 800000 in
/-- utf.Word. -/
theorem word_any (r : Int) (w : World) : Calls Try.prog 39 #[.int .i32 r] w fun e w' => e = .returned (.bool (word r)) ∧ w = w' := by
  go_enter Try.func39, Try.ntmps39
  go_wp2_with (first
    | (go_at_call 47; refine (in_any _ _ _ _).mono ?_; rintro e w' ⟨rfl, rfl⟩)
    | (go_at_call 48; refine (utf8_ValidRune _ _).mono ?_; rintro e w' ⟨rfl, rfl⟩))
  all_goals
    go_ret
    refine ⟨ret_bool ?_, rfl⟩
    simp only [inB, Bool.and_eq_true, Bool.and_eq_false_iff, decide_eq_true_eq, decide_eq_false_iff_not, beq_iff_eq, beq_eq_false_iff_ne, ne_eq] at *
    unfold word
    repeat' split
  all_goals first | rfl | (exfalso; omega)

set_option maxHeartbeats 800000 in
/-- The document's Small. -/
theorem refsmall_any (r : Int) (w : World) (h0 : -2147483648 ≤ r) (h1 : r ≤ 2147483647) : Calls Try.prog 25 #[.int .i32 r] w fun e w' => e = .returned (.int .i32 (small r)) ∧ w = w' := by
  go_enter Try.func25, Try.ntmps25
  go_wp2
  all_goals
    go_ret
    refine ⟨ret_int ?_, rfl⟩
    try simp only [beq_iff_eq, beq_eq_false_iff_ne, ne_eq] at *
    try unfold wrap32
    unfold small
    repeat' split
  all_goals omega

set_option maxHeartbeats 1600000 in
set_option maxRecDepth 100000 in
/-- The document's Word. -/
theorem refword_any (r : Int) (w : World) : Calls Try.prog 23 #[.int .i32 r] w fun e w' => e = .returned (.bool (word r)) ∧ w = w' := by
  go_enter Try.func23, Try.ntmps23
  go_wp2
  all_goals
    go_ret
    refine ⟨ret_bool ?_, rfl⟩
    try simp only [beq_iff_eq, beq_eq_false_iff_ne, ne_eq] at *
    unfold word
    repeat' split
  all_goals first | rfl | (exfalso; omega) | (rw [Bool.eq_iff_iff]; simp; omega)
end Go.Proofs.Ytebdolfcemplnaa.UtSmall
