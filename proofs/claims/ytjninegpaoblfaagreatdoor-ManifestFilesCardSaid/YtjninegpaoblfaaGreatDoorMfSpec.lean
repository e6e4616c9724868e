/- Manifests in plain words: which may be, their numbers, their bytes; of bytes at most one manifest has them; what is read of bytes. No conditions but those that the theorems name. -/
import Derived.Test.YtjninegpaoblfaaGreatDoorReads
import Derived.Test.YtjninegpaoblfaaGreatDoorZig
import Derived.Test.YtjninegpaoblfaaGreatDoorDkSpec
namespace Go.Proofs.YtjninegpaoblfaaGreatDoor.MfSpec
open Go Plain Zig Framed Reading BackF

/-- A segment: its number, how many records, their least and greatest time. -/
structure Sg where
  id : Int
  count : Int
  least : Int
  most : Int
deriving DecidableEq
structure Man where
  wal : Int
  next : Int
  seq : UInt64
  mark : Int
  segs : List Sg
deriving DecidableEq
def In64 (n : Int) : Prop := -9223372036854775808 ≤ n ∧ n ≤ 9223372036854775807
/-- Its numbers are of their kinds. -/
structure SgOk (s : Sg) : Prop where
  id : In64 s.id
  count : In64 s.count
  least : In64 s.least
  most : In64 s.most
structure Ok (m : Man) : Prop where
  wal : In64 m.wal
  next : In64 m.next
  mark : In64 m.mark
  segs : ∀ s ∈ m.segs, SgOk s
def zero : Man := ⟨0, 0, 0, 0, []⟩
def first : Man := ⟨1, 1, 1, -9223372036854775808, []⟩
theorem ok_zero : Ok zero := ⟨by constructor <;> decide, by constructor <;> decide, by constructor <;> decide, fun s hs => by cases hs⟩
theorem ok_first : Ok first := ⟨by constructor <;> decide, by constructor <;> decide, by constructor <;> decide, fun s hs => by cases hs⟩

def headMay (m : Man) : Bool := decide (1 ≤ m.wal) && (decide (m.wal ≤ 1000000000) && (decide (1 ≤ m.next) && (decide (m.next ≤ 1000000000) && decide (m.segs.length ≤ 1024))))
def segMay (next : Int) (s : Sg) : Bool := decide (1 ≤ s.id) && (decide (s.id < next) && (decide (1 ≤ s.count) && (decide (s.count ≤ 65536) && decide (s.least ≤ s.most))))
/-- The first k segments may be, and no two of them have a number. -/
def segsMay (m : Man) (k : Nat) : Prop := (∀ i s, i < k → m.segs[i]? = some s → segMay m.next s = true) ∧ ∀ i j s t, i < j → j < k → m.segs[i]? = some s → m.segs[j]? = some t → s.id ≠ t.id
open Classical in
/-- May it be? -/
noncomputable def may (m : Man) : Bool := headMay m && decide (segsMay m m.segs.length)
theorem may_iff (m : Man) : may m = true ↔ headMay m = true ∧ segsMay m m.segs.length := by unfold may; simp
theorem may_first : may first = true := (may_iff _).2 ⟨by decide, fun i s hi _ => by simp [first] at hi, fun i j s t _ hj => by simp [first] at hj⟩
structure Head (m : Man) : Prop where
  wal : 1 ≤ m.wal ∧ m.wal ≤ 1000000000
  next : 1 ≤ m.next ∧ m.next ≤ 1000000000
  few : m.segs.length ≤ 1024
theorem head_iff (m : Man) : headMay m = true ↔ Head m := by
  unfold headMay
  simp only [Bool.and_eq_true, decide_eq_true_eq]
  exact ⟨fun ⟨a, b, c, d, e⟩ => ⟨⟨a, b⟩, ⟨c, d⟩, e⟩, fun h => ⟨h.wal.1, h.wal.2, h.next.1, h.next.2, h.few⟩⟩
structure SegH (next : Int) (s : Sg) : Prop where
  id : 1 ≤ s.id ∧ s.id < next
  count : 1 ≤ s.count ∧ s.count ≤ 65536
  span : s.least ≤ s.most
theorem seg_iff (n : Int) (s : Sg) : segMay n s = true ↔ SegH n s := by
  unfold segMay
  simp only [Bool.and_eq_true, decide_eq_true_eq]
  exact ⟨fun ⟨a, b, c, d, e⟩ => ⟨⟨a, b⟩, ⟨c, d⟩, e⟩, fun h => ⟨h.id.1, h.id.2, h.count.1, h.count.2, h.span⟩⟩
theorem segsMay_succ {m : Man} {k : Nat} {s : Sg} (hs : m.segs[k]? = some s) : segsMay m (k + 1) ↔ segsMay m k ∧ segMay m.next s = true ∧ ∀ i t, i < k → m.segs[i]? = some t → t.id ≠ s.id := by
  constructor
  · rintro ⟨h1, h2⟩
    exact ⟨⟨fun i s hi => h1 i s (by omega), fun i j s t hij hj => h2 i j s t hij (by omega)⟩, h1 k s (by omega) hs, fun i t hi ht => h2 i k t s hi (by omega) ht hs⟩
  · rintro ⟨⟨h1, h2⟩, h3, h4⟩
    refine ⟨fun i s' hi hi' => ?_, fun i j s' t hij hj hi' hj' => ?_⟩
    · by_cases h : i = k
      · subst h; rw [hs] at hi'; injection hi' with hi'; subst hi'; exact h3
      · exact h1 i s' (by omega) hi'
    · by_cases h : j = k
      · subst h; rw [hs] at hj'; injection hj' with hj'; subst hj'; exact h4 i s' hij hi'
      · exact h2 i j s' t hij (by omega) hi' hj'

open Classical in
/-- With the first k segments looked at. -/
noncomputable def mayTo (m : Man) (k : Nat) : Bool := headMay m && decide (segsMay m k)
open Classical in
/-- The segment k = s looked at, its number held against the first j. -/
noncomputable def okIn (m : Man) (k : Nat) (s : Sg) (j : Nat) : Bool := mayTo m k && (segMay m.next s && decide (∀ i t, i < j → m.segs[i]? = some t → t.id ≠ s.id))
open Classical in
theorem mayTo_zero (m : Man) : mayTo m 0 = headMay m := by
  unfold mayTo
  rw [decide_eq_true (show segsMay m 0 from ⟨fun i s hi => by omega, fun i j s t _ hj => by omega⟩), Bool.and_true]
theorem mayTo_all (m : Man) : mayTo m m.segs.length = may m := rfl
open Classical in
theorem mayTo_succ {m : Man} {k : Nat} {s : Sg} (hs : m.segs[k]? = some s) : mayTo m (k + 1) = okIn m k s k := by
  unfold okIn mayTo
  rw [Bool.eq_iff_iff]
  simp only [Bool.and_eq_true, decide_eq_true_eq]
  rw [segsMay_succ hs]
  constructor
  · rintro ⟨h1, h2, h3, h4⟩
    exact ⟨⟨h1, h2⟩, h3, h4⟩
  · rintro ⟨⟨h1, h2⟩, h3, h4⟩
    exact ⟨h1, h2, h3, h4⟩
open Classical in
theorem okIn_zero (m : Man) (k : Nat) (s : Sg) : okIn m k s 0 = (mayTo m k && segMay m.next s) := by
  unfold okIn
  rw [decide_eq_true (show ∀ i t, i < 0 → m.segs[i]? = some t → t.id ≠ s.id from fun i t hi => by omega), Bool.and_true]
open Classical in
theorem okIn_succ {m : Man} {k j : Nat} {s t : Sg} (ht : m.segs[j]? = some t) (h : okIn m k s j = true) : okIn m k s (j + 1) = (t.id != s.id) := by
  unfold okIn at h ⊢
  simp only [Bool.and_eq_true, decide_eq_true_eq] at h
  rw [h.1, h.2.1, Bool.true_and, Bool.true_and, Bool.eq_iff_iff, decide_eq_true_eq, bne_iff_ne]
  constructor
  · exact fun h' => h' j t (by omega) ht
  · intro h' i u hi hu
    by_cases e : i = j
    · subst e; rw [ht] at hu; injection hu with hu; subst hu; exact h'
    · exact h.2.2 i u (by omega) hu
open Classical in
theorem okIn_false {m : Man} {k j n : Nat} {s : Sg} (hj : j ≤ n) (h : okIn m k s j = false) : okIn m k s n = false := by
  cases e : okIn m k s n with
  | false => rfl
  | true =>
    unfold okIn at h e
    simp only [Bool.and_eq_true, decide_eq_true_eq] at e
    rw [e.1, e.2.1, decide_eq_true (fun i t hi ht => e.2.2 i t (by omega) ht)] at h
    cases h

/-! ### Numbers and bytes -/
def u (n : Int) : UInt64 := UInt64.ofNat n.toNat
theorem u_toNat {n : Int} (h : n.toNat < 18446744073709551616) : (u n).toNat = n.toNat := by
  unfold u
  rw [UInt64.toNat_ofNat']
  exact Nat.mod_eq_of_lt h
theorem u_inj {a b : Int} (ha : 0 ≤ a ∧ a < 18446744073709551616) (hb : 0 ≤ b ∧ b < 18446744073709551616) (h : u a = u b) : a = b := by
  have := congrArg UInt64.toNat h
  rw [u_toNat (by omega), u_toNat (by omega)] at this
  omega
def headNums (m : Man) : List UInt64 := [u m.wal, u m.next, m.seq, u (zig m.mark), u (m.segs.length : Int)]
def segNums (s : Sg) : List UInt64 := [u s.id, u s.count, u (zig s.least), u (zig s.most)]
def nums (m : Man) : List UInt64 := headNums m ++ m.segs.flatMap segNums
noncomputable def mbytes (m : Man) : List UInt8 := frm (encs (nums m))
theorem segNums_len (l : List Sg) : (l.flatMap segNums).length = 4 * l.length := by
  induction l with
  | nil => rfl
  | cons a r ih => rw [List.flatMap_cons, List.length_append, ih]; simp [segNums]; omega
theorem nums_len (m : Man) : (nums m).length = 5 + 4 * m.segs.length := by
  unfold nums
  rw [List.length_append, segNums_len]
  rfl
theorem encs_len {m : Man} (h : Head m) : (encs (nums m)).length ≤ 41010 := by
  have := encs_length (nums m)
  rw [nums_len] at this
  have := h.few
  omega
theorem bytes_len {m : Man} (h : Head m) : (mbytes m).length ≤ 41024 := by
  have := encs_len h
  have := Lib.uvarint_length64 (x := (encs (nums m)).length) (by omega)
  unfold mbytes
  rw [frm_length]
  omega
theorem zig64 {n : Int} (h : In64 n) : 0 ≤ zig n ∧ zig n < 18446744073709551616 := by
  have := zig_bound h.1 h.2
  omega
theorem zig_inj {a b : Int} (h : zig a = zig b) : a = b := by rw [← zag_zig a, ← zag_zig b, h]
theorem segNums_inj : ∀ {l m : List Sg}, (∀ s ∈ l, SgOk s ∧ 0 ≤ s.id ∧ 0 ≤ s.count) → (∀ s ∈ m, SgOk s ∧ 0 ≤ s.id ∧ 0 ≤ s.count) → l.flatMap segNums = m.flatMap segNums → l = m
  | [], [], _, _, _ => rfl
  | [], y :: m, _, _, h => by simp [segNums] at h
  | x :: l, [], _, _, h => by simp [segNums] at h
  | x :: l, y :: m, hl, hm, h => by
    rw [List.flatMap_cons, List.flatMap_cons] at h
    unfold segNums at h
    simp only [List.cons_append, List.nil_append, List.cons.injEq] at h
    obtain ⟨h1, h2, h3, h4, h5⟩ := h
    obtain ⟨⟨a1, a2, a3, a4⟩, a5, a6⟩ := hl x (by simp)
    obtain ⟨⟨b1, b2, b3, b4⟩, b5, b6⟩ := hm y (by simp)
    have e1 : x.id = y.id := u_inj ⟨a5, by have := a1.2; omega⟩ ⟨b5, by have := b1.2; omega⟩ h1
    have e2 : x.count = y.count := u_inj ⟨a6, by have := a2.2; omega⟩ ⟨b6, by have := b2.2; omega⟩ h2
    have e3 := zig_inj (u_inj (zig64 a3) (zig64 b3) h3)
    have e4 := zig_inj (u_inj (zig64 a4) (zig64 b4) h4)
    obtain ⟨xi, xc, xl, xm⟩ := x
    obtain ⟨yi, yc, yl, ym⟩ := y
    simp only at e1 e2 e3 e4
    rw [e1, e2, e3, e4, segNums_inj (fun s hs => hl s (by simp [hs])) (fun s hs => hm s (by simp [hs])) h5]
structure May (m : Man) : Prop where
  ok : Ok m
  head : Head m
  segs : ∀ s ∈ m.segs, SegH m.next s
theorem may_of {m : Man} (ho : Ok m) (h : may m = true) : May m := by
  obtain ⟨h1, h2, _⟩ := (may_iff m).1 h
  refine ⟨ho, (head_iff m).1 h1, fun s hs => ?_⟩
  obtain ⟨i, hi⟩ := List.mem_iff_getElem?.1 hs
  exact (seg_iff _ _).1 (h2 i s (List.getElem?_eq_some_iff.1 hi).1 hi)
theorem nums_inj {a b : Man} (ha : May a) (hb : May b) (h : nums a = nums b) : a = b := by
  unfold nums headNums at h
  simp only [List.cons_append, List.nil_append, List.cons.injEq] at h
  obtain ⟨h1, h2, h3, h4, _, h6⟩ := h
  have e1 : a.wal = b.wal := u_inj (by have := ha.head.wal; omega) (by have := hb.head.wal; omega) h1
  have e2 : a.next = b.next := u_inj (by have := ha.head.next; omega) (by have := hb.head.next; omega) h2
  have e4 := zig_inj (u_inj (zig64 ha.ok.mark) (zig64 hb.ok.mark) h4)
  have e6 := segNums_inj (fun s hs => ⟨ha.ok.segs s hs, by have := (ha.segs s hs).id; omega, by have := (ha.segs s hs).count; omega⟩) (fun s hs => ⟨hb.ok.segs s hs, by have := (hb.segs s hs).id; omega, by have := (hb.segs s hs).count; omega⟩) h6
  obtain ⟨_, _, _, _, _⟩ := a
  obtain ⟨_, _, _, _, _⟩ := b
  simp only at e1 e2 h3 e4 e6
  rw [e1, e2, h3, e4, e6]

/-! ### Reading -/
/-- One number ahead of others. -/
theorem dec_one (x : UInt64) (r : List UInt8) : dec 0 0 (Lib.uvarint x.toNat ++ r) = (x.toNat, (Lib.uvarint x.toNat).length, 0) := by
  have h := dec_uvarint 9 0 0 x.toNat r rfl (by omega) (by have := x.toNat_lt; omega) (by omega)
  simpa using h
theorem encs_cons (x : UInt64) (l : List UInt64) : encs (x :: l) = Lib.uvarint x.toNat ++ encs l := by simp [encs]
theorem encs_append (l m : List UInt64) : encs (l ++ m) = encs l ++ encs m := by simp [encs]
theorem encs_pos {x : UInt64} {l : List UInt64} : 0 < (encs (x :: l)).length := by
  rw [encs_cons, List.length_append]
  have := Lib.uvarint_pos x.toNat
  omega
/-- Two lists of numbers with the same bytes up to what is behind them: one is the beginning of the other. -/
theorem encs_prefix : ∀ {l m : List UInt64} {r : List UInt8}, encs l ++ r = encs m → ∃ k, m = l ++ k ∧ r = encs k
  | [], m, r, h => ⟨m, rfl, by simpa [encs] using h⟩
  | x :: l, [], r, h => by
    have h1 := congrArg List.length h
    have := encs_pos (x := x) (l := l)
    rw [List.length_append, show encs ([] : List UInt64) = [] from rfl, List.length_nil] at h1
    omega
  | x :: l, y :: m, r, h => by
    rw [encs_cons, encs_cons, List.append_assoc] at h
    have h1 := dec_one x (encs l ++ r)
    rw [h, dec_one] at h1
    simp only [Prod.mk.injEq] at h1
    have e : y = x := UInt64.toNat_inj.1 h1.1
    subst e
    obtain ⟨k, hk, hr⟩ := encs_prefix (List.append_cancel_left h)
    exact ⟨k, by rw [hk]; rfl, hr⟩
theorem encs_inj {l m : List UInt64} (h : encs l = encs m) : l = m := by
  obtain ⟨k, hk, hr⟩ := encs_prefix (l := l) (m := m) (r := []) (by simpa using h)
  cases k with
  | nil => simpa using hk.symm
  | cons x k => have := encs_pos (x := x) (l := k); rw [← hr] at this; simp at this
theorem bytes_inj {a b : Man} (ha : May a) (hb : May b) (h : mbytes a = mbytes b) : a = b := by
  unfold mbytes at h
  have h1 := (rd_frm0 (encs (nums a)) (by have := encs_len ha.head; omega)).2.1
  rw [h, (rd_frm0 (encs (nums b)) (by have := encs_len hb.head; omega)).2.1] at h1
  exact nums_inj ha hb (encs_inj h1.symm)
/-- m is the manifest whose bytes are b. -/
def Is (b : List UInt8) (m : Man) : Prop := Ok m ∧ may m = true ∧ mbytes m = b
theorem is_inj {b : List UInt8} {m n : Man} (h : Is b m) (h' : Is b n) : m = n := bytes_inj (may_of h.1 h.2.1) (may_of h'.1 h'.2.1) (h.2.2.trans h'.2.2.symm)
open Classical in
/-- What is read of bytes: the error, the manifest. -/
noncomputable def read (b : List UInt8) : Nat × Man := if h : ∃ m, Is b m then (0, Classical.choose h) else (30, zero)
theorem read_is {b : List UInt8} {m : Man} (h : Is b m) : read b = (0, m) := by
  unfold read
  rw [dif_pos ⟨m, h⟩, is_inj (Classical.choose_spec (⟨m, h⟩ : ∃ m, Is b m)) h]
theorem read_none {b : List UInt8} (h : ∀ m, ¬ Is b m) : read b = (30, zero) := by
  unfold read
  rw [dif_neg (fun ⟨m, hm⟩ => h m hm)]
theorem read_cases (b : List UInt8) : (∃ m, Is b m ∧ read b = (0, m)) ∨ ((∀ m, ¬ Is b m) ∧ read b = (30, zero)) := by
  by_cases h : ∃ m, Is b m
  · obtain ⟨m, hm⟩ := h
    exact .inl ⟨m, hm, read_is hm⟩
  · exact .inr ⟨fun m hm => h ⟨m, hm⟩, read_none fun m hm => h ⟨m, hm⟩⟩
theorem ok_read (b : List UInt8) : Ok (read b).2 := by
  rcases read_cases b with ⟨m, hm, e⟩ | ⟨_, e⟩ <;> rw [e]
  · exact hm.1
  · exact ok_zero
open Classical in
/-- What is written: the error, the bytes. -/
noncomputable def write (m : Man) : Nat × List UInt8 := if may m = true then (0, mbytes m) else (1, [])
theorem write_ok {m : Man} (h : may m = true) : write m = (0, mbytes m) := if_pos h
theorem write_no {m : Man} (h : ¬ may m = true) : write m = (1, []) := if_neg h
theorem write_len {m : Man} (h : Ok m) : (write m).2.length ≤ 41024 := by
  by_cases hm : may m = true
  · rw [write_ok hm]; exact bytes_len (may_of h hm).head
  · rw [write_no hm]; simp
/-- What the numbers that were read from the beginning on tell of all of them: the next one. -/
theorem next_num {p : List UInt8} {ns L : List UInt64} {k : Nat} (_hk : k ≤ p.length) (hn : encs ns = p.take k) (hL : encs L = p) (hlt : k < p.length) : getE p k = 0 := by
  obtain ⟨r, hr, he⟩ := encs_prefix (l := ns) (m := L) (r := p.drop k) (by rw [hn, List.take_append_drop, hL])
  cases r with
  | nil => have := congrArg List.length he; simp [encs] at this; omega
  | cons x r =>
    unfold getE
    rw [if_neg (by omega), Int.toNat_natCast, he, encs_cons, dec_one]
    rfl
/-- A number that is read is written as it was. -/
theorem got_num {p : List UInt8} {k : Nat} (hk : k ≤ p.length) (he : getE p k = 0) : ∃ (x : UInt64) (n : Nat), getN p k = (x.toNat : Int) ∧ getTo p k = ((k + n : Nat) : Int) ∧ k + n ≤ p.length ∧ 0 < n ∧ p.take (k + n) = p.take k ++ encs [x] := by
  have hc : ¬ ((k : Int) < 0 ∨ (p.length : Int) < (k : Int)) := by omega
  unfold getE at he
  rw [if_neg hc, Int.toNat_natCast] at he
  obtain ⟨⟨n, c, e⟩, hd⟩ : ∃ t, dec 0 0 (p.drop k) = t := ⟨_, rfl⟩
  rw [hd] at he
  simp only at he
  obtain rfl : e = 0 := by omega
  obtain ⟨x, h1, h2, h3, h4, _, h6⟩ := dec_back (p.drop k) 0 0 n c (by omega) (by simp) hd
  have hx : x < 18446744073709551616 := by simp at h1; omega
  have hxu : (UInt64.ofNat x).toNat = x := by rw [UInt64.toNat_ofNat']; exact Nat.mod_eq_of_lt hx
  have hnx : n = x := by simp at h1; omega
  refine ⟨UInt64.ofNat x, (Lib.uvarint x).length, ?_, ?_, ?_, Lib.uvarint_pos x, ?_⟩
  · unfold getN; rw [if_neg hc, Int.toNat_natCast, hd, hxu, hnx]
  · unfold getTo; rw [if_neg hc, Int.toNat_natCast, hd, if_pos rfl]; simp only; omega
  · rw [List.length_drop] at h3; omega
  · rw [List.take_add, h4, encs_one, hxu]
/-! ### On a disk -/
open DkSpec
def nm : List UInt8 := [109, 97, 110, 105, 102, 101, 115, 116]
def nw : List UInt8 := [109, 97, 110, 105, 102, 101, 115, 116, 46, 110, 101, 119]
noncomputable def load (d : DSt) : Nat × Man :=
  if (DkSpec.read nm d).1 = 21 then (0, first) else if (DkSpec.read nm d).1 ≠ 0 then ((DkSpec.read nm d).1, zero) else read (DkSpec.read nm d).2
noncomputable def save (m : Man) (d : DSt) : Nat × DSt :=
  if (write m).1 ≠ 0 then ((write m).1, d)
  else if (delete nw d).1 ≠ 0 ∧ (delete nw d).1 ≠ 21 then delete nw d
  else if (append nw (write m).2 (delete nw d).2).1 ≠ 0 then append nw (write m).2 (delete nw d).2
  else if (sync nw (append nw (write m).2 (delete nw d).2).2).1 ≠ 0 then sync nw (append nw (write m).2 (delete nw d).2).2
  else rename nw nm (sync nw (append nw (write m).2 (delete nw d).2).2).2
end Go.Proofs.YtjninegpaoblfaaGreatDoor.MfSpec
