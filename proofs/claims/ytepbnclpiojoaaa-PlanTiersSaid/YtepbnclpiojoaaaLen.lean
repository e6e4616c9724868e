/- The contract of math/bits.Len64 at this program: it answers how many bits a number needs ('PkPlain.need'), and leaves the world alone. The library's contract, which is proved over any program, is applied; its table of numbers is this program's. Condition: 64 bits. -/
import Derived.Shelf.Strconv.Itoa0
import Derived.Test.YtepbnclpiojoaaaProg
import Derived.Test.YtepbnclpiojoaaaRows
import Derived.Test.YtepbnclpiojoaaaPkPlain
namespace Go.Proofs.Ytepbnclpiojoaaa.Len
open Go Go.Shelf PkPlain

def ren : Go.Shelf.Ren := ⟨fun | 129 => 18 | n => n, fun | 53 => 39 | 3 => 3 | 4 => 4 | 46 => 46 | 5 => 5 | 9 => 9 | n => n, fun | n => n⟩
theorem lays : Go.Proofs.Lays.n129 Try.prog ren := {
  mixed := by kernel_rfl
  f129 := Try.func18.trans (congrArg some (by kernel_rfl))
  t3 := Try.underlying3
  a3 := Try.isAgg3
  z3 := Try.sizeOf3
  v3 := Try.zeroValue3
  t4 := Try.underlying4
  a4 := Try.isAgg4
  z4 := Try.sizeOf4
  v4 := Try.zeroValue4
  t5 := Try.underlying5
  a5 := Try.isAgg5
  z5 := Try.sizeOf5
  v5 := Try.zeroValue5
  t9 := Try.underlying9
  a9 := Try.isAgg9
  z9 := Try.sizeOf9
  v9 := Try.zeroValue9
  t46 := Try.underlying46
  a46 := Try.isAgg46
  z46 := Try.sizeOf46
  v46 := Try.zeroValue46
  t53 := Try.underlying39
  a53 := Try.isAgg39
  z53 := Try.sizeOf39
  v53 := Try.zeroValue39 }
theorem aux_need : ∀ (f x : Nat), x < 2 ^ f → Lib.bitLenAux f x = need x
  | 0, x, h => by
    obtain rfl : x = 0 := by simp at h; omega
    rfl
  | f + 1, x, h => by
    rw [Lib.bitLenAux]
    by_cases h0 : x = 0
    · subst h0; rfl
    · rw [if_neg h0, aux_need f (x / 2) (by rw [Nat.pow_succ] at h; omega), need_half x (by omega)]
      omega
/-- Len64. -/
theorem len_any (n : Nat) (w : World) (h : n < 18446744073709551616) :
    Calls Try.prog 18 #[.int .u64 (n : Int)] w fun e w' => e = .returned (.int .i64 ((need n : Nat) : Int)) ∧ w = w' :=
  (Any.bits_Len64 lays (n : Int) w (by omega) (by omega)).mono fun e w' ⟨h1, h2⟩ => by
    rw [show ((n : Int)).toNat = n by omega] at h1
    have e1 : Lib.bitLen n = need n := aux_need 64 n (by omega)
    rw [e1] at h1
    exact ⟨h1, h2.symm⟩
end Go.Proofs.Ytepbnclpiojoaaa.Len
