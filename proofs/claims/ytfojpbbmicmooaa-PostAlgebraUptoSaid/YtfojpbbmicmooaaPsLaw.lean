/- What stage 11's statements ask of the program's postings ('Post': contracts of its calls), over plain words. -/
import Derived.Test.YtfojpbbmicmooaaPkSpecs
import Derived.Test.YtfojpbbmicmooaaRows
import Derived.Test.YtfojpbbmicmooaaWords
import Derived.Test.YtfojpbbmicmooaaKm
import Derived.Lib.Hide
namespace Go.Proofs.Ytfojpbbmicmooaa.PsLaw
open Go Go.RowKit Words PkSpec PsSpec Km

/-- What Write answers: the error, the bytes. -/
noncomputable def wr (l : List UInt64) : Nat × List UInt8 := open Classical in if 65536 < l.length then (3, []) else if Rising l then (0, pb l) else (1, [])
theorem wr_long {l : List UInt64} (h : 65536 < l.length) : wr l = (3, []) := by unfold wr; rw [if_pos h]
theorem wr_ok {l : List UInt64} (h : ¬ 65536 < l.length) (hr : Rising l) : wr l = (0, pb l) := by unfold wr; rw [if_neg h, if_pos hr]
theorem wr_not {l : List UInt64} (h : ¬ 65536 < l.length) (hr : ¬ Rising l) : wr l = (1, []) := by unfold wr; rw [if_neg h, if_neg hr]
theorem wr_cases (l : List UInt64) : ((wr l).1 ≠ 0 ∧ (wr l).2 = []) ∨ (wr l = (0, pb l) ∧ l.length ≤ 65536 ∧ Rising l) := by
  by_cases h : 65536 < l.length
  · rw [wr_long h]; exact .inl ⟨by decide, rfl⟩
  · by_cases hr : Rising l
    · exact .inr ⟨wr_ok h hr, by omega, hr⟩
    · rw [wr_not h hr]; exact .inl ⟨by decide, rfl⟩
/-- The number at a place; 0 behind the end. -/
def numAt (l : List UInt64) (s : Nat) : Nat := (l.getD s 0).toNat
theorem num_at {l : List UInt64} {s : Nat} (h : s < l.length) : numAt l s = l[s].toNat := by unfold numAt; simp [List.getD, h]
theorem num_end {l : List UInt64} {s : Nat} (h : l.length ≤ s) : numAt l s = 0 := by unfold numAt; simp [List.getD, List.getElem?_eq_none h]

/-- A slice of numbers. -/
structure P64 where
  A : Option Addr
  c : Nat
  l : List UInt64
def SV64 (p : P64) : Value := .slice p.A p.l.length p.c
def Good64 (w : World) (p : P64) : Prop := Rd w w.heap.size p.A (p.l.map B64) ∧ p.l.length ≤ p.c ∧ p.c ≤ maxLen
def nums (ps : List P64) : List (List UInt64) := ps.map (·.l)
/-- Slices of numbers in memory. -/
structure Ns (w : World) (A : Option Addr) (n c : Nat) (ps : List P64) : Prop where
  len : n = ps.length
  le : n ≤ c
  cap : c ≤ maxLen
  rd : Rd w w.heap.size A (ps.map SV64)
  each : ∀ p ∈ ps, Good64 w p
theorem Ns.below {w w' : World} {A : Option Addr} {n c : Nat} {ps : List P64} (h : Ns w A n c ps) (hb : Below w.heap.size w w') : Ns w' A n c ps :=
  ⟨h.len, h.le, h.cap, (h.rd.below hb).more hb.size, fun p hp => ⟨((h.each p hp).1.below hb).more hb.size, (h.each p hp).2⟩⟩
theorem Good64.below {w w' : World} {p : P64} (h : Good64 w p) (hb : Below w.heap.size w w') : Good64 w' p := ⟨(h.1.below hb).more hb.size, h.2⟩

/-- A new row of numbers. -/
def LPost (w : World) (r : List UInt64) (e : Ending) (w' : World) : Prop := ∃ v, e = .returned v ∧ w'.ownsRow w.heap.size 31 1 v r.length (r.map B64) ∧ Below w.heap.size w w'
def WPost (w : World) (r : Nat × List UInt8) (e : Ending) (w' : World) : Prop := ∃ v, e = .returned (.tuple #[v, .int .i64 (r.1 : Int)]) ∧ w'.ownsRow w.heap.size 5 1 v r.2.length (r.2.map B8) ∧ Below w.heap.size w w'
section
variable (IterR : World → (Nat → Nat) → Nat → Nat → List UInt64 → Nat → Prop)
def OPost (w : World) (K : Nat → Nat) (o : Nat) (l : List UInt64) (e : Ending) (w' : World) : Prop :=
  ∃ p K', e = .returned (.tuple #[.pointer (some ⟨p, 0, none⟩), .int .i64 0]) ∧ IterR w' K' o p l 0 ∧ Below w.heap.size w w' ∧ ∀ i, i < w.heap.size → K' i = K i
/-- What a step of an iterator leaves: s is the place of what it answers. -/
def SPost (w : World) (K : Nat → Nat) (o p : Nat) (l : List UInt64) (s : Nat) (e : Ending) (w' : World) : Prop :=
  e = .returned (.tuple #[.int .u64 (numAt l s : Int), .bool (decide (s < l.length))]) ∧ ∃ K', IterR w' K' o p l (min (s + 1) l.length) ∧ Mv K K' (fun x => x = o) w w'
/-- The program's postings. -/
structure Post : Prop where
  keep : ∀ {w w' : World} {K K' : Nat → Nat} {o p : Nat} {l : List UInt64} {a : Nat}, IterR w K o p l a → w.heap.size ≤ w'.heap.size → (∀ i, i < w.heap.size → K i = o → w'.heap[i]? = w.heap[i]?) → (∀ i, i < w.heap.size → K' i = K i) → IterR w' K' o p l a
  write : ∀ (w : World) (l : List UInt64) (A : Option Addr) (c : Nat), Rd w w.heap.size A (l.map B64) → l.length ≤ c → c ≤ maxLen → Calls Try.prog 7 #[.slice A l.length c] w (WPost w (wr l))
  opens : ∀ (w : World) (K : Nat → Nat) (o : Nat) (l : List UInt64) (A : Option Addr) (c : Nat), l.length ≤ 65536 → Rising l → Rd w w.heap.size A ((pb l).map B8) → (pb l).length ≤ c → c ≤ maxLen → Calls Try.prog 8 #[.slice A (pb l).length c] w (OPost IterR w K o l)
  len : ∀ (w : World) (K : Nat → Nat) (o p : Nat) (l : List UInt64) (a : Nat), IterR w K o p l a → Calls Try.prog 14 #[.pointer (some ⟨p, 0, none⟩)] w fun e w' => e = .returned (.int .i64 (l.length : Int)) ∧ ∃ n, w' = w.drewN n
  next : ∀ (w : World) (K : Nat → Nat) (o p : Nat) (l : List UInt64) (a : Nat), IterR w K o p l a → a ≤ l.length → Calls Try.prog 10 #[.pointer (some ⟨p, 0, none⟩)] w (SPost IterR w K o p l a)
  seek : ∀ (w : World) (K : Nat → Nat) (o p : Nat) (l : List UInt64) (a n s : Nat), IterR w K o p l a → n < 18446744073709551616 → SeekTo l a n s → Calls Try.prog 9 #[.pointer (some ⟨p, 0, none⟩), .int .u64 (n : Int)] w (SPost IterR w K o p l s)
  seekNil : ∀ (w : World) (n : Int), Calls Try.prog 9 #[.pointer none, .int .u64 n] w fun e w' => e = .returned (.tuple #[.int .u64 0, .bool false]) ∧ w = w'
  lenNil : ∀ (w : World), Calls Try.prog 14 #[.pointer none] w fun e w' => e = .returned (.int .i64 0) ∧ ∃ n, w' = w.drewN n
  and_ : ∀ (w : World) (ps : List P64) (A : Option Addr) (n c : Nat), Ns w A n c ps → (nums ps).flatten.length ≤ 16777216 → n ≤ 1048576 → Calls Try.prog 11 #[.slice A n c] w (LPost w (andL (nums ps)))
  or_ : ∀ (w : World) (ps : List P64) (A : Option Addr) (n c : Nat), Ns w A n c ps → (nums ps).flatten.length ≤ 16777216 → n ≤ 1048576 → Calls Try.prog 12 #[.slice A n c] w (LPost w (orL (nums ps)))
end
end Go.Proofs.Ytfojpbbmicmooaa.PsLaw
