/- The contract of the statements' own 'awake' of layer 3: the document's fixed answers are met: it answers true and leaves what was there. Conditions: PackAny and UnAny for the program. -/
import Derived.Test.YtokmoodiolnfiaaPkOne
import Derived.Test.YtokmoodiolnfiaaPkAgain
namespace Go.Proofs.Ytokmoodiolnfiaa.Awake3
open Go Go.RowKit Words Plain Put RefPut App PkPlain PkSpec UnSpec Need RefPk RefUn RefUn2 PkHas PkOne PkAgain

theorem post_ok {l : List UInt64} {w w' : World} {e : Ending} (h : PackPost l w e w') (hl : l.length ≤ 65536) (hr : Rising l) :
    ∃ v, e = .returned (.tuple #[v, .int .i64 0]) ∧ w'.ownsRow w.heap.size 5 1 v (pk l).length ((pk l).map B8) ∧ Below w.heap.size w w' := by
  rcases h with ⟨h1, _⟩ | ⟨_, h1, _⟩ | ⟨_, _, h1⟩
  · omega
  · exact absurd hr h1
  · exact h1
def a145 : List UInt64 := [1, 4, 5]
def a567 : List UInt64 := [5, 6, 7]
def b350 : List UInt8 := [3, 5, 0]
def b31 : List UInt8 := [3, 1, 2, 18]
def c31 : List UInt8 := [3, 1, 2, 2]
theorem rising_one (x : UInt64) : Rising [x] := fun i hi _ => by simp at hi
theorem a145_rising : Rising a145 := rising_cons (by decide) (rising_cons (by decide) (rising_one _))
theorem a145_pk : pk a145 = c31 := by
  unfold pk
  rw [show head1 a145 = Lib.uvarint 1 from rfl, show a145.length = 3 from rfl, Lib.uvarint_small (by omega), Lib.uvarint_small (by omega)]
  decide +kernel
theorem b350_unp : unp b350 0 = (0, a567, 3) := by decide +kernel
theorem b31_unp : unp b31 0 = (6, [], 0) := by decide +kernel
theorem L3 : a145.length = 3 := rfl
theorem L4 : c31.length = 4 := rfl
theorem L5 : b350.length = 3 := rfl
theorem L6 : b31.length = 4 := rfl
theorem L7 : a567.length = 3 := rfl

set_option maxHeartbeats 1600000 in
set_option maxRecDepth 100000 in
theorem awake_any (HP : PackAny) (HU : UnAny) (w : World) : Calls Try.prog 9 #[] w fun e w' => e = .returned (.bool true) ∧ Below w.heap.size w w' := by
  have HU := Lib.hid HU
  have H1 := Lib.hid (HP a145 (some ⟨w.heap.size, 0, none⟩) 3 3 (w.alloc (.cells #[.int .u64 1, .int .u64 4, .int .u64 5] 34)) rfl ((Rd.made w #[.int .u64 1, .int .u64 4, .int .u64 5] 34).more (by simp)) (by simp [L3]) (by unfold maxLen; omega))
  have HB0 := Lib.hid ((Below.refl w.heap.size w).alloc (Nat.le_refl _) (.cells #[.int .u64 1, .int .u64 4, .int .u64 5] 34))
  clear HP
  go_enter Try.func9, Try.ntmps9
  go_wp2_with fail
  refine H1.out.mono ?_
  intro e w1 hpost
  obtain ⟨v1, rfl, hown1, hb1⟩ := post_ok hpost (by simp [L3]) a145_rising
  rw [a145_pk, L4] at hown1
  have HB1 := Lib.hid (HB0.out.trans (hb1.mono (by simp)))
  obtain ⟨A1, c1, rfl, _, _, _⟩ := own_slice hown1
  have HR1 := Lib.hid (Rd.of_own hown1)
  clear hpost hown1 hb1 H1 HB0
  have H2 := Lib.hid (HU.out b350 (some ⟨w1.heap.size, 0, none⟩) 3 3 0 (w1.alloc (.cells #[.int .u8 3, .int .u8 5, .int .u8 0] 5)) rfl ((Rd.made w1 #[.int .u8 3, .int .u8 5, .int .u8 0] 5).more (by simp)) (by simp [L5]) (by unfold maxLen; omega) (by simp [L5]))
  unfold UnPost at H2
  rw [b350_unp] at H2
  have HB1' := Lib.hid (HB1.out.alloc HB1.out.size (.cells #[.int .u8 3, .int .u8 5, .int .u8 0] 5))
  go_wp2_with fail
  refine H2.out.mono ?_
  rintro e w2 ⟨v2, rfl, hown2, hb2⟩
  have HB2 := Lib.hid (HB1'.out.trans (hb2.mono HB1'.out.size))
  rw [L7] at hown2
  obtain ⟨A2, c2, rfl, _, _, _⟩ := own_slice hown2
  have HR2 := Lib.hid (Rd.of_own hown2)
  have HR1' := Lib.hid (((HR1.out.alloc (Nat.le_refl _) (.cells #[.int .u8 3, .int .u8 5, .int .u8 0] 5)).more (by simp)).below hb2 |>.more hb2.size)
  clear hown2 hb2 H2 HB1 HB1' HR1
  have H3 := Lib.hid (HU.out b31 (some ⟨w2.heap.size, 0, none⟩) 4 4 0 (w2.alloc (.cells #[.int .u8 3, .int .u8 1, .int .u8 2, .int .u8 18] 5)) rfl ((Rd.made w2 #[.int .u8 3, .int .u8 1, .int .u8 2, .int .u8 18] 5).more (by simp)) (by simp [L6]) (by unfold maxLen; omega) (by simp [L6]))
  unfold UnPost at H3
  rw [b31_unp] at H3
  have HB2' := Lib.hid (HB2.out.alloc HB2.out.size (.cells #[.int .u8 3, .int .u8 1, .int .u8 2, .int .u8 18] 5))
  go_wp2_with fail
  refine H3.out.mono ?_
  rintro e w3 ⟨v3, rfl, _, hb3⟩
  have HB3 := Lib.hid (HB2'.out.trans (hb3.mono HB2'.out.size))
  have HR1'' := Lib.hid (((HR1'.out.alloc (Nat.le_refl _) (.cells #[.int .u8 3, .int .u8 1, .int .u8 2, .int .u8 18] 5)).more (by simp)).below hb3 |>.more hb3.size)
  have HR2' := Lib.hid (((HR2.out.alloc (Nat.le_refl _) (.cells #[.int .u8 3, .int .u8 1, .int .u8 2, .int .u8 18] 5)).more (by simp)).below hb3 |>.more hb3.size)
  clear hb3 H3 HB2 HB2' HR1' HR2 HU
  have s1 := run_str w3 A1 4 c1 L4.symm HR1''.out
  unfold c31 at s1
  have S := Lib.hid (same_eq a567 A2 (some ⟨w3.heap.size, 0, none⟩) 3 3 c2 3 (w3.alloc (.cells #[.int .u64 5, .int .u64 6, .int .u64 7] 34)) _ _ rfl rfl (HR2'.out.alloc (Nat.le_refl _) (.cells #[.int .u64 5, .int .u64 6, .int .u64 7] 34)) (Rd.made w3 #[.int .u64 5, .int .u64 6, .int .u64 7] 34) (by unfold maxLen; simp [L7]))
  have HB4 := Lib.hid (HB3.out.alloc HB3.out.size (.cells #[.int .u64 5, .int .u64 6, .int .u64 7] 34))
  clear HR1'' HR2' HB3
  go_wp2_with fail
  refine S.out.mono ?_
  rintro e w5 ⟨rfl, nq, rfl⟩
  go_wp2
  go_ret
  exact ⟨rfl, below_drewN HB4.out _⟩
end Go.Proofs.Ytokmoodiolnfiaa.Awake3
