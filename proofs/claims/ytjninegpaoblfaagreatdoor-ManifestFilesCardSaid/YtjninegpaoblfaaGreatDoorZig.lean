/- The contracts of varint.Zig and Zag, and of the document's own: for every number each answers 'zigzag' and 'unzigzag', and leaves the world as it is. Conditions: the numbers lie within int64 and uint64. -/
import Derived.Test.YtjninegpaoblfaaGreatDoorRows
import Derived.Test.YtjninegpaoblfaaGreatDoorPlain
import Derived.WalkKit
import Derived.Outline
namespace Go.Proofs.YtjninegpaoblfaaGreatDoor.Zig
open Go Go.RowKit Plain

theorem ret64 {n m : Int} (h : n = m) : Ending.returned (.int .u64 n) = .returned (.int .u64 m) := by rw [h]
theorem reti64 {n m : Int} (h : n = m) : Ending.returned (.int .i64 n) = .returned (.int .i64 m) := by rw [h]

def zig (n : Int) : Int := if n < 0 then -2 * n - 1 else 2 * n
def zag (u : Int) : Int := if u % 2 = 0 then u / 2 else -(u / 2) - 1

set_option maxHeartbeats 400000 in
theorem zig_any (n : Int) (w : World) (h1 : -9223372036854775808 ≤ n) (h2 : n ≤ 9223372036854775807) :
    Calls Tryz.prog 70 #[.int .i64 n] w fun e w' => e = .returned (.int .u64 (zig n)) ∧ w = w' := by
  by_cases hh : n < 0
  · have hz := Lib.zigzag_neg h1 hh
    go_enter Tryz.func70, Tryz.ntmps70
    go_wp2
    go_ret
    refine ⟨ret64 ?_, rfl⟩
    unfold Lib.zigzag zig
    rw [if_neg (by omega), if_pos hh]
    omega
  · have h0 : 0 ≤ n := by omega
    go_enter Tryz.func70, Tryz.ntmps70
    go_wp2
    go_ret
    refine ⟨ret64 ?_, rfl⟩
    unfold zig
    rw [if_neg (by omega)]
    omega

set_option maxHeartbeats 400000 in
theorem refzig_any (n : Int) (w : World) (h1 : -9223372036854775808 ≤ n) (h2 : n ≤ 9223372036854775807) :
    Calls Tryz.prog 55 #[.int .i64 n] w fun e w' => e = .returned (.int .u64 (zig n)) ∧ w = w' := by
  by_cases hh : n < 0
  · go_enter Tryz.func55, Tryz.ntmps55
    go_wp2
    go_ret
    refine ⟨ret64 ?_, rfl⟩
    unfold zig
    rw [if_pos hh]
    omega
  · have h0 : 0 ≤ n := by omega
    go_enter Tryz.func55, Tryz.ntmps55
    go_wp2
    go_ret
    refine ⟨ret64 ?_, rfl⟩
    unfold zig
    rw [if_neg (by omega)]

set_option maxHeartbeats 400000 in
theorem zag_any (u : Int) (w : World) (h1 : 0 ≤ u) (h2 : u ≤ 18446744073709551615) :
    Calls Tryz.prog 73 #[.int .u64 u] w fun e w' => e = .returned (.int .i64 (zag u)) ∧ w = w' := by
  have ha := Lib.u64_and1 u h1 (by omega)
  have hn := Lib.i64_not (u / 2).toNat (by omega)
  rw [show (((u / 2).toNat : Nat) : Int) = u / 2 by omega] at hn
  by_cases hh : u % 2 = 0
  · have hb : (bits .and .u64 u 1 == 1) = false := by rw [ha, hh]; rfl
    clear ha
    go_enter Tryz.func73, Tryz.ntmps73
    go_wp2
    go_ret
    refine ⟨reti64 ?_, rfl⟩
    unfold zag
    rw [if_pos hh]
  · have hb : (bits .and .u64 u 1 == 1) = true := by rw [ha, show u % 2 = 1 by omega]; rfl
    clear ha
    go_enter Tryz.func73, Tryz.ntmps73
    go_wp2
    go_ret
    refine ⟨reti64 ?_, rfl⟩
    unfold zag
    rw [if_neg (by omega)]

set_option maxHeartbeats 400000 in
theorem refzag_any (u : Int) (w : World) (h1 : 0 ≤ u) (h2 : u ≤ 18446744073709551615) :
    Calls Tryz.prog 64 #[.int .u64 u] w fun e w' => e = .returned (.int .i64 (zag u)) ∧ w = w' := by
  by_cases hh : u % 2 = 0
  · have hb : (u % 2 == 0) = true := by simp [hh]
    go_enter Tryz.func64, Tryz.ntmps64
    go_wp2
    go_ret
    refine ⟨reti64 ?_, rfl⟩
    unfold zag
    rw [if_pos hh]
  · have hb : (u % 2 == 0) = false := by simp [hh]
    go_enter Tryz.func64, Tryz.ntmps64
    go_wp2
    go_ret
    refine ⟨reti64 ?_, rfl⟩
    unfold zag
    rw [if_neg (by omega)]

theorem zig_bound {n : Int} (h1 : -9223372036854775808 ≤ n) (h2 : n ≤ 9223372036854775807) : 0 ≤ zig n ∧ zig n ≤ 18446744073709551615 := by
  unfold zig; split <;> omega
theorem zag_bound {u : Int} (h1 : 0 ≤ u) (h2 : u ≤ 18446744073709551615) : -9223372036854775808 ≤ zag u ∧ zag u ≤ 9223372036854775807 := by
  unfold zag; split <;> omega
theorem zag_zig (n : Int) : zag (zig n) = n := by
  unfold zag zig; split <;> split <;> omega
theorem zig_zag {u : Int} (h : 0 ≤ u) : zig (zag u) = u := by
  unfold zag zig; split <;> split <;> omega
theorem zig_odd (n : Int) : (zig n % 2 == 1) = decide (n < 0) := by
  unfold zig; by_cases h : n < 0
  · rw [if_pos h]; simp [h]; omega
  · rw [if_neg h]; simp [h]

end Go.Proofs.YtjninegpaoblfaaGreatDoor.Zig
