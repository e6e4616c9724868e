/- The contract of the document's own Pack: for all lists of numbers the error, or new memory that holds the list's bytes; nothing that was there has changed. Conditions: the slice's length is at most its capacity, the capacity at most the model's greatest length. · The contract of the document's own Get: for all bytes and every place it answers as 'Plain.getN', 'getTo', 'getE' say, and leaves the world as it is. Conditions: the slice's length is at most its capacity, the capacity at most the model's greatest length. · The contract of the document's own Unpack: for all bytes and every place the error, the list in new memory, and the place behind it; nothing that was there has changed. Conditions: the slice's length is at most its capacity, the capacity at most the model's greatest length, the length at most 2^47. · The contract of the document's own Unpack, where differences are there: as XRefUn says. · What is asked of the program's own Pack and Unpack: that they answer as the plain words pk and unp say, with memory of their own, and leave what was there. No conditions of its own: a proof of both for the landed program is another text. -/
import Derived.Test.YtfojpbbmicmooaaNeed
import Derived.Test.YtfojpbbmicmooaaPkSpecs
import Derived.Test.YtfojpbbmicmooaaRefOne
import Derived.Test.YtfojpbbmicmooaaAppend
import Derived.Test.YtfojpbbmicmooaaGet
import Derived.Test.YtfojpbbmicmooaaUnSpec
namespace Go.Proofs.Ytfojpbbmicmooaa.RefPk
open Go Go.RowKit Words Plain Put RefPut App PkPlain PkSpec Need

/-- What Pack and the document's Pack answer. -/
def PackPost (l : List UInt64) (w : World) (e : Ending) (w' : World) : Prop :=
  (65536 < l.length ∧ e = .returned (.tuple #[.slice none 0 0, .int .i64 3]) ∧ Below w.heap.size w w') ∨
  (l.length ≤ 65536 ∧ ¬ Rising l ∧ e = .returned (.tuple #[.slice none 0 0, .int .i64 1]) ∧ Below w.heap.size w w') ∨
  (l.length ≤ 65536 ∧ Rising l ∧ ∃ v, e = .returned (.tuple #[v, .int .i64 0]) ∧ w'.ownsRow w.heap.size 5 1 v (pk l).length ((pk l).map B8) ∧ Below w.heap.size w w')

def hd (l : List UInt64) (i : Nat) : List UInt8 := Lib.uvarint l.length ++ (if i = 0 then [] else head1 l)
def Rel1 (l : List UInt64) (w : World) (vo vw vi : Value) (wr : World) : Prop := ∃ i : Nat, i ≤ l.length ∧ vi = .int .i64 (i : Int) ∧ vw = .int .i64 ((width ((gaps l).take (i - 1)) : Nat) : Int) ∧
  wr.ownsRow w.heap.size 5 1 vo (hd l i).length ((hd l i).map B8) ∧ RisingTo l i ∧ Below w.heap.size w wr
/-- The loops over the bits: i numbers, then k bits of the next. -/
def Rel2 (n W N : Nat) (wo : World) (vb vi : Value) (wr : World) : Prop := ∃ i : Nat, i + 1 ≤ n ∧ vi = .int .i64 ((i : Int) + 1) ∧ wr.ownsRow wo.heap.size 5 1 vb (i * W) ((bitsOf (i * W) N).map B8) ∧ Below wo.heap.size wo wr
def Rel3 (m W N g : Nat) (wo : World) (vb vd vk : Value) (wr : World) : Prop := ∃ k : Nat, k ≤ W ∧ vk = .int .i64 (k : Int) ∧ vd = .int .u64 ((g / 2 ^ k : Nat) : Int) ∧ wr.ownsRow wo.heap.size 5 1 vb (m + k) ((bitsOf (m + k) N).map B8) ∧ Below wo.heap.size wo wr
def lenOf : Value → Nat
  | .slice _ n _ => n
  | _ => 0
def Rel4 (tot sz N : Nat) (wo : World) (vb : Value) (wr : World) : Prop := ∃ m : Nat, tot ≤ m ∧ m ≤ 8 * sz ∧ wr.ownsRow wo.heap.size 5 1 vb m ((bitsOf m N).map B8) ∧ Below wo.heap.size wo wr
/-- The loop over the bytes: q bytes are written. -/
def Rel5 (H : List UInt8) (W sz N : Nat) (w wo wp : World) (vb : Value) (vo vi : Value) (wr : World) : Prop := ∃ q : Nat, q ≤ sz ∧ vi = .int .i64 (8 * (q : Int)) ∧
  wr.ownsRow w.heap.size 5 1 vo (H.length + 1 + q) ((H ++ (W.toUInt8 :: digs q N)).map B8) ∧ wr.ownsRow wo.heap.size 5 1 vb (8 * sz) ((bitsOf (8 * sz) N).map B8) ∧ Below w.heap.size w wr ∧
  (∀ g, vo.ownBlock = some g → g < wo.heap.size ∨ wp.heap.size ≤ g) ∧ wp.heap.size ≤ wr.heap.size
def Rel6 (N q : Nat) (vc vk : Value) : Prop := ∃ (t C : Nat) (kk : Int), t ≤ 8 ∧ kk + 1 = (t : Int) ∧ vk = .int .i64 kk ∧ vc = .int .u8 (C : Int) ∧ Hid (C = N / 2 ^ (8 * q + t) % 2 ^ (8 - t))
theorem byte_step (N m s : Nat) : N / 2 ^ m % 2 ^ (s + 1) = 2 * (N / 2 ^ (m + 1) % 2 ^ s) + N / 2 ^ m % 2 := by
  have e : 2 ^ m * 2 = 2 ^ (m + 1) := rfl
  rw [Nat.pow_succ', Nat.mod_mul, Nat.div_div_eq_div_mul, e]
  omega
theorem own_dig {w : World} {base : Nat} {e : TypeId} {v : Value} {n q N C : Nat} {H : List UInt8} {z : UInt8} (hx : C = N / 2 ^ (8 * q + 0) % 2 ^ (8 - 0)) (h : w.ownsRow base e 1 v (n + 1) (H.map B8 ++ B8 z :: ((digs q N).map B8 ++ [.int .u8 (C : Int)]))) : w.ownsRow base e 1 v (n + 1) ((H ++ (z :: digs (q + 1) N)).map B8) := by
  subst hx
  have e1 : 2 ^ (8 * q + 0) = 256 ^ q := by rw [Nat.add_zero, Nat.pow_mul]
  have e2 : 2 ^ (8 - 0) = 256 := rfl
  rw [e1, e2] at h
  have e : B8 (N / 256 ^ q % 256).toUInt8 = .int .u8 ((N / 256 ^ q % 256 : Nat) : Int) := by
    simp only [B8]
    congr 1
    simp
  rw [digs_snoc]
  simp only [List.map_append, List.map_cons, List.map_nil, e]
  exact h
theorem own_bit {w : World} {base : Nat} {e : TypeId} {v : Value} {m N : Nat} {x : Int} (hx : x = ((N / 2 ^ m % 2 : Nat) : Int)) (h : w.ownsRow base e 1 v (m + 1) ((bitsOf m N).map B8 ++ [.int .u8 x])) : w.ownsRow base e 1 v (m + 1) ((bitsOf (m + 1) N).map B8) := by
  subst hx
  rw [bitsOf_snoc, List.map_append]
  have e : [(N / 2 ^ m % 2).toUInt8].map B8 = [.int .u8 ((N / 2 ^ m % 2 : Nat) : Int)] := by
    simp only [List.map_cons, List.map_nil, B8]
    congr 2
    simp
    omega
  rw [e]
  exact h
theorem wtake_le (l : List UInt64) (k : Nat) : width ((gaps l).take k) ≤ 64 := (width_le _ _).2 fun g hg => gaps_lt l g (List.mem_of_mem_take hg)

end Go.Proofs.Ytfojpbbmicmooaa.RefPk

namespace Go.Proofs.Ytfojpbbmicmooaa.RefGet
open Go Go.RowKit Words Plain Get

def Rel3 (l' : List UInt8) (m : Nat) (x u i : Value) : Prop := ∃ k acc : Nat, k ≤ m ∧ k ≤ 9 ∧ acc < 128 ^ k ∧ i = .int .i64 k ∧ x = .int .u64 acc ∧ u = .int .u64 ((128 ^ k : Nat) : Int) ∧ Hid (dec 0 0 l' = dec k acc (l'.drop k))

theorem pow_bound (k : Nat) (h : k ≤ 9) : 128 ^ k ≤ 9223372036854775808 := by
  have : 128 ^ k ≤ 128 ^ 9 := Nat.pow_le_pow_right (by omega) h
  simpa using this

end Go.Proofs.Ytfojpbbmicmooaa.RefGet

namespace Go.Proofs.Ytfojpbbmicmooaa.RefUn
open Go Go.RowKit Words Plain Put RefPut App PkPlain PkSpec UnSpec Need Get RefGet

theorem un_get_ok {l : List UInt8} {at_ : Int} (h : getE l at_ = 0) : ∃ n f : Nat, getN l at_ = n ∧ getTo l at_ = f ∧ f ≤ l.length ∧ n < 18446744073709551616 := by
  unfold getE at h
  unfold getN getTo
  by_cases h0 : at_ < 0 ∨ (l.length : Int) < at_
  · rw [if_pos h0] at h; omega
  rw [if_neg h0] at h
  rw [if_neg h0, if_neg h0]
  obtain ⟨⟨n, c, e⟩, hd⟩ : ∃ x, dec 0 0 (l.drop at_.toNat) = x := ⟨_, rfl⟩
  rw [hd] at h
  rw [hd]
  simp only at h ⊢
  have he : e = 0 := by omega
  subst he
  obtain ⟨x, h1, h2, h3, _, _, h6⟩ := dec_back _ 0 0 n c (by omega) (by decide) hd
  rw [List.length_drop] at h3
  exact ⟨n, at_.toNat + c, rfl, by simp; omega, by omega, h6⟩

/-- What Unpack and the document's Unpack answer. -/
def UnPost (b : List UInt8) (at_ : Int) (w : World) (e : Ending) (w' : World) : Prop :=
  ∃ v, e = .returned (.tuple #[v, .int .i64 (unp b at_).2.2, .int .i64 (unp b at_).1]) ∧ w'.ownsRow w.heap.size 31 1 v (unp b at_).2.1.length ((unp b at_).2.1.map B64) ∧ Below w.heap.size w w'
theorem post_nil {b : List UInt8} {at_ : Int} {w w' : World} {e : Ending} {x t : Int} (h : unp b at_ = (x, [], t)) (he : e = .returned (.tuple #[.slice none 0 0, .int .i64 t, .int .i64 x])) (hb : Below w.heap.size w w') : UnPost b at_ w e w' := by
  unfold UnPost
  rw [h]
  exact ⟨_, he, World.ownsRow_nil _ _ _ _, hb⟩

section
variable (b : List UInt8) (A : Option Addr) (c : Nat) (at_ : Int) (w : World) (B : Nat) (hr : Rd w B A (b.map B8)) (hc : b.length ≤ c) (hm : c ≤ maxLen)
include hr hc hm

end
end Go.Proofs.Ytfojpbbmicmooaa.RefUn

namespace Go.Proofs.Ytfojpbbmicmooaa.RefUn2
open Go Go.RowKit Words Plain Put RefPut App PkPlain PkSpec UnSpec Need Get RefGet RefUn

def RelT (sz p : Nat) (v : Value) : Prop := ∃ (s : Nat) (T : Int), s ≤ sz ∧ Hid (T = (p : Int) + 1 + (s : Int)) ∧ v = .int .i64 T
def RelF (sz tot M : Nat) (v : Value) : Prop := ∃ i : Nat, i ≤ 8 * sz ∧ v = .int .i64 (i : Int) ∧ Hid (∀ j, tot ≤ j → j < i → M / 2 ^ j % 2 = 0)

/-- The loop over the differences: i of them went through. -/
def RelG (x m wv M : Nat) (w : World) (vx vl vm vi : Value) (wr : World) : Prop := ∃ (i xc : Nat) (L : List UInt64), i ≤ m ∧ vi = .int .i64 (i : Int) ∧ vx = .int .u64 (xc : Int) ∧ xc ≤ 18446744073709551615 ∧ Hid (xc = x + (cuts M wv i).sum + (cuts M wv i).length) ∧
  Hid (run x (cuts M wv i) = some L) ∧ wr.ownsRow w.heap.size 31 1 vl (i + 1) (L.map B64) ∧ vm = .int .i64 ((width (cuts M wv i) : Nat) : Int) ∧ Below w.heap.size w wr
def RelD (M iw wv : Nat) (vd vk : Value) : Prop := ∃ (t D : Nat) (kk : Int), t ≤ wv ∧ kk + 1 = (t : Int) ∧ vk = .int .i64 kk ∧ vd = .int .u64 (D : Int) ∧ Hid (D = M / 2 ^ (iw + t) % 2 ^ (wv - t))
theorem bit_step (N m s : Nat) : N / 2 ^ m % 2 ^ (s + 1) = 2 * (N / 2 ^ (m + 1) % 2 ^ s) + N / 2 ^ m % 2 := by
  have e : 2 ^ m * 2 = 2 ^ (m + 1) := rfl
  rw [Nat.pow_succ', Nat.mod_mul, Nat.div_div_eq_div_mul, e]
  omega
theorem info_u64 : (Try.prog.info? 31).map (fun i => (i.zero, i.size, i.bytes)) = some (some (.int .u64 0), 1, 8) := by kernel_rfl
theorem bitv (y k : Nat) (h : y < 256) : (IntKind.u64.wrap ((y : Int) / 2 ^ k)).tmod 2 = ((y / 2 ^ k % 2 : Nat) : Int) := by
  have e : (y : Int) / 2 ^ k = ((y / 2 ^ k : Nat) : Int) := by simp
  have hl : y / 2 ^ k ≤ y := Nat.div_le_self _ _
  rw [e, IntKind.wrap_u64]
  generalize y / 2 ^ k = z at *
  rw [Int.tmod_eq_emod_of_nonneg (by omega)]
  omega
theorem high_bit {M tot i : Nat} (h : tot ≤ i) (hb : M / 2 ^ i % 2 = 1) : ¬ M < 2 ^ tot := by
  intro hl
  have : M < 2 ^ i := Nat.lt_of_lt_of_le hl (Nat.pow_le_pow_right (by omega) h)
  rw [Nat.div_eq_of_lt this] at hb
  omega
theorem low_bits {M tot k : Nat} (hM : M < 2 ^ k) (h : ∀ j, tot ≤ j → j < k → M / 2 ^ j % 2 = 0) : M < 2 ^ tot := by
  apply Nat.lt_pow_two_of_testBit
  intro i hi
  by_cases hik : i < k
  · rw [Nat.testBit_eq_decide_div_mod_eq, h i hi hik]
    rfl
  · exact Nat.testBit_lt_two_pow (Nat.lt_of_lt_of_le hM (Nat.pow_le_pow_right (by omega) (by omega)))

end Go.Proofs.Ytfojpbbmicmooaa.RefUn2

namespace Go.Proofs.Ytfojpbbmicmooaa.PkHas
open Go Go.RowKit Words Plain PkPlain PkSpec UnSpec RefPk RefUn

def PackAny : Prop := ∀ (l : List UInt64) (A : Option Addr) (n c : Nat) (w : World), n = l.length → Rd w w.heap.size A (l.map B64) → l.length ≤ c → c ≤ maxLen →
  Calls Try.prog 17 #[.slice A n c] w (PackPost l w)
def UnAny : Prop := ∀ (b : List UInt8) (A : Option Addr) (n c : Nat) (at_ : Int) (w : World), n = b.length → Rd w w.heap.size A (b.map B8) → b.length ≤ c → c ≤ maxLen → b.length ≤ 140737488355327 →
  Calls Try.prog 31 #[.slice A n c, .int .i64 at_] w (UnPost b at_ w)
/-- A row of bytes as a string. -/
theorem run_str {s : List UInt8} {B : Nat} (w : World) (A : Option Addr) (n c : Nat) (hn : n = s.length) (hr : Rd w B A (s.map B8)) : (convert 24 9 (.slice A n c)).run Try.prog w = .ok (.string ⟨s.toArray⟩) w := by
  subst hn
  exact run_bytes w 24 9 5 Try.underlying24 Try.underlying5 Try.underlying9 A s c B hr
end Go.Proofs.Ytfojpbbmicmooaa.PkHas

