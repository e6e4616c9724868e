/- What three statements of stage 5 say, in plain lists (no program in this text): a rename over a file with the disk going down on the way. No conditions. -/
import Derived.Test.YtjninegpaoblfaaGreatDoorDkSpec
namespace Go.Proofs.YtjninegpaoblfaaGreatDoor.DkLaws
open Go DkSpec

def nm : List UInt8 := [109]
def nn : List UInt8 := [109, 46, 110, 101, 119]
def two (o f : List UInt8) (so sf : Nat) (off : Bool) (left : Int) : DSt := ⟨[⟨nm, o, so⟩, ⟨nn, f, sf⟩], false, off, left⟩
def one (o : List UInt8) (so : Nat) (off : Bool) (left : Int) : DSt := ⟨[⟨nm, o, so⟩], false, off, left⟩

section
variable (o f : List UInt8)
theorem r1 : append nm o fresh = (0, one o 0 false (-1)) := rfl
theorem r2 : sync nm (one o 0 false (-1)) = (0, one o o.length false (-1)) := rfl
theorem arm0 : arm 0 (one o o.length false (-1)) = one o o.length true 0 := rfl
theorem arm1 : arm 1 (one o o.length false (-1)) = one o o.length false 1 := rfl
theorem arm2 : arm 2 (one o o.length false (-1)) = one o o.length false 2 := rfl
theorem arm3 : arm 3 (one o o.length false (-1)) = one o o.length false 3 := rfl
theorem arm4 : arm 4 (one o o.length false (-1)) = one o o.length false 4 := rfl
theorem arm5 : arm 5 (one o o.length false (-1)) = one o o.length false 5 := rfl
theorem ap0 (s : Nat) : append nn f (one o s true 0) = (23, one o s true 0) := rfl
theorem ap1 (s : Nat) : append nn f (one o s false 1) = (0, two o f s 0 true 0) := rfl
theorem ap2 (s : Nat) : append nn f (one o s false 2) = (0, two o f s 0 false 1) := rfl
theorem ap3 (s : Nat) : append nn f (one o s false 3) = (0, two o f s 0 false 2) := rfl
theorem ap4 (s : Nat) : append nn f (one o s false 4) = (0, two o f s 0 false 3) := rfl
theorem ap5 (s : Nat) : append nn f (one o s false 5) = (0, two o f s 0 false 4) := rfl
theorem sy0 (s : Nat) : sync nn (one o s true 0) = (23, one o s true 0) := rfl
theorem sy1 (s : Nat) : sync nn (two o f s 0 true 0) = (23, two o f s 0 true 0) := rfl
theorem sy2 (s : Nat) : sync nn (two o f s 0 false 1) = (0, two o f s f.length true 0) := rfl
theorem sy3 (s : Nat) : sync nn (two o f s 0 false 2) = (0, two o f s f.length false 1) := rfl
theorem sy4 (s : Nat) : sync nn (two o f s 0 false 3) = (0, two o f s f.length false 2) := rfl
theorem sy5 (s : Nat) : sync nn (two o f s 0 false 4) = (0, two o f s f.length false 3) := rfl
theorem rn0 (s : Nat) : rename nn nm (one o s true 0) = (23, one o s true 0) := rfl
theorem rn1 (s t : Nat) : rename nn nm (two o f s t true 0) = (23, two o f s t true 0) := rfl
theorem rn3 (s t : Nat) : rename nn nm (two o f s t false 1) = (0, one f t true 0) := rfl
theorem rn4 (s t : Nat) : rename nn nm (two o f s t false 2) = (0, one f t false 1) := rfl
theorem rn5 (s t : Nat) : rename nn nm (two o f s t false 3) = (0, one f t false 2) := rfl
theorem st_all (n : Int) (k : List UInt8) : stays ⟨nm, k, k.length⟩ n = k.length := by simp [stays]
theorem rs1 (n : Int) (off : Bool) (left : Int) : restart [n, n] (one o o.length off left) = one o o.length false (-1) := by
  simp [restart, one, kept, stays]
theorem rs2 (n : Int) (t : Nat) (off : Bool) (left : Int) : ∃ f' t', restart [n, n] (two o f o.length t off left) = two o f' o.length t' false (-1) := by
  refine ⟨f.take (stays ⟨nn, f, t⟩ n), stays ⟨nn, f, t⟩ n, ?_⟩
  simp [restart, two, kept, stays]
theorem rd1 (s : Nat) : read nm (one o s false (-1)) = (0, o) := rfl
theorem rd2 (s t : Nat) : read nm (two o f s t false (-1)) = (0, o) := rfl
theorem ls1 (s : Nat) : list (one o s false (-1)) = (0, [nm]) := rfl
end

/-! ### DiskArms -/
def na : List UInt8 := [97]
def nb : List UInt8 := [98]
def nA : List UInt8 := [65]
def nnone : List UInt8 := [110, 111, 110, 101]
def aSt (s : Nat) (full off : Bool) (left : Int) : DSt := ⟨[⟨na, [1], s⟩], full, off, left⟩
theorem a1 : append na [1] fresh = (0, aSt 0 false false (-1)) := rfl
theorem a2 (full : Bool) (n : Nat) : arm ((n : Int) + 1) { aSt 0 false false (-1) with full := full } = aSt 0 full false ((n : Int) + 1) := by
  have h1 : ¬ ((n : Int) + 1 < 0) := by omega
  have h2 : (((n : Int) + 1) == 0) = false := beq_eq_false_iff_ne.2 (by omega)
  simp [arm, aSt, h1, h2]
theorem a3 (full : Bool) (left : Int) (s : Nat) : read na (aSt s full false left) = (0, [1]) := rfl
theorem a4 (full : Bool) (left : Int) (s : Nat) : list (aSt s full false left) = (0, [na]) := rfl
theorem a5 (full : Bool) (m : Nat) (s : Nat) : delete nnone (aSt s full false ((m : Int) + 1)) = (21, aSt s full (m == 0) (m : Int)) := by
  have h0 : refused nnone nnone (aSt s full false ((m : Int) + 1)) = 0 := rfl
  have hp : (place nnone (aSt s full false ((m : Int) + 1)).files).2 = false := rfl
  unfold delete
  rw [if_neg (by simp [h0]), hp, if_pos (by rfl)]
  have h1 : (0 : Int) < (m : Int) + 1 := by omega
  have h3 : (((m : Int) + 1) == 1) = (m == 0) := by
    rw [Bool.eq_iff_iff]; simp; omega
  simp [stepped, aSt, h1, h3]
theorem a6 (full off : Bool) (left : Int) (s : Nat) : sync nA (aSt s full off left) = (1, aSt s full off left) := rfl
theorem a7 (full : Bool) (left : Int) (s : Nat) : read na (aSt s full true left) = (23, []) := rfl
theorem a8 (full : Bool) (left : Int) (s : Nat) : list (aSt s full true left) = (23, []) := rfl
theorem a9 (full : Bool) (left : Int) (s : Nat) : append nb [] (aSt s full true left) = (23, aSt s full true left) := rfl
theorem a10 (full : Bool) (left : Int) (s : Nat) : rename na nb (aSt s full true left) = (23, aSt s full true left) := rfl
theorem a11 (full off : Bool) (left : Int) (s : Nat) : append [] [] (aSt s full off left) = (1, aSt s full off left) := rfl
theorem a12 (full : Bool) (left n : Int) (s : Nat) : arm n (aSt s full true left) = aSt s full true left := rfl
theorem a13 (full off : Bool) (left : Int) : restart [9] (aSt 0 full off left) = aSt 1 false false (-1) := rfl
theorem a14 : (append nb [] (aSt 1 false false (-1))).1 = 0 := rfl

/-! ### DiskCrash -/
def nf : List UInt8 := [102]
def fSt (l : List UInt8) (s : Nat) : DSt := ⟨[⟨nf, l, s⟩], false, false, -1⟩
theorem f0 (p : List UInt8) : append nf p fresh = (0, fSt p 0) := rfl
theorem f1 (l p : List UInt8) (s : Nat) : append nf p (fSt l s) = (0, fSt (l ++ p) s) := rfl
theorem f2 (l : List UInt8) (s : Nat) : sync nf (fSt l s) = (0, fSt l l.length) := rfl
theorem f3 : sync nf fresh = (21, fresh) := rfl
theorem f4 (l : List UInt8) (s : Nat) : read nf (fSt l s) = (0, l) := rfl
theorem f5 (l : List UInt8) (s : Nat) (k : Int) : restart [k] (fSt l s) = fSt (l.take (min l.length (s + k.toNat))) (min l.length (s + k.toNat)) := rfl
theorem f6 (l : List UInt8) : restart [0] (fSt l l.length) = fSt l l.length := by
  rw [f5]
  have h : min l.length (l.length + (0 : Int).toNat) = l.length := by simp
  rw [h, List.take_length]
/-- How many bytes stay, as the statement reckons it. -/
theorem f7 (n s : Nat) (k : Int) (h : s ≤ n) : ((min n (s + k.toNat) : Nat) : Int) = (s : Int) + min (max k 0) ((n : Int) - (s : Int)) := by omega
theorem len_take (l : List UInt8) (s : Nat) (k : Int) : (l.take (min l.length (s + k.toNat))).length = min l.length (s + k.toNat) := by
  rw [List.length_take]; omega
theorem good_fresh : Good fresh := ⟨List.Pairwise.nil, fun _ h => by cases h⟩
end Go.Proofs.YtjninegpaoblfaaGreatDoor.DkLaws
