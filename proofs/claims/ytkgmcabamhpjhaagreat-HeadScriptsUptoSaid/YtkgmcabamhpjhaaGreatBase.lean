/- Words for memory, of no program: 'Rd': a slice's cells read as a list of values (nil let in); a slice of bytes as a list of bytes. No conditions. · Whose a block is, by numbers; what changes while only blocks of some numbers change ('Mv'). Of no program. No conditions. · Plain facts on numbers by sevens of bits (no program in this text): 'dec' is the reading of a number out of a list of bytes, 'getA' the reading at a place; what is read is the number that was written. No conditions. · Plain facts on bits (no program in this text): how many bits a number needs; numbers laid one behind the other as one number; a number's bits and bytes. No conditions. · 'append(out, xs...)' onto a row of the call's own, the source nil, empty or not (told by 'Rd'); elements of any number of cells. Of no program. Condition: the new length times the element's bytes is at most 2^47. · 'append(out, xs...)' onto a row of the call's own, the source nil, empty or not (told by 'Rd'); elements of one cell. Of no program. Condition: the new length times the element's bytes is at most 2^47. · Words on rows of the call's own (of no program): their value, kept while new memory is made, their base lowered, an append behind a new block. No conditions. · The row's last step where of the world behind the call it is known that all that was there is as it was ('Below'). No conditions. · Opening a statement's arguments (slices of bytes, slices of uint64, int64 and uint64, strings, bools) and shutting the row of a statement: it answered true and all that was there is as it was. Of no program. No conditions. -/
import Derived.Below
import Derived.Laws.OwnMore
import Derived.Deep.AppendLies
import Derived.Deep.Draws
import Derived.WalkKit
import Derived.Laws.BytesString
import Derived.Lib.SlBytesRow
import Derived.Laws.Rows
import Derived.Lib.Varint
import Derived.Lib.VarintBits
import Derived.Lib.Zigzag
import Derived.Maps.AppendAt
import Derived.RegionTactic
import Derived.OwnWalk
import Derived.Deep.OwnRows
import Derived.ChangeSame
import Derived.ProofKit
import Derived.OpenShut
import Derived.Carry
namespace Go.Proofs.YtkgmcabamhpjhaaGreat.Words
open Go Go.RowKit

def B8 (c : UInt8) : Value := .int .u8 (c.toNat : Int)
def B64 (c : UInt64) : Value := .int .u64 (c.toNat : Int)

/-- The slice at A (nil let in) reads as vs; its block lies below B. -/
def Rd (w : World) (B : Nat) (A : Option Addr) (vs : List Value) : Prop :=
  0 < vs.length → ∃ b off, A = some ⟨b, off, none⟩ ∧ b < B ∧ ∀ j u, vs[j]? = some u → w.cell? ⟨b, off + j, none⟩ = some u

theorem add_off (b off j : Nat) : (⟨b, off, none⟩ : Addr).add j = ⟨b, off + j, none⟩ := by unfold Addr.add; split <;> simp_all

section
variable {w w' : World} {B B' : Nat} {A : Option Addr} {vs : List Value}
theorem Rd.keep (h : Rd w B A vs) (hk : ∀ p : Addr, p.block < B → w'.cell? p = w.cell? p) : Rd w' B A vs := fun hn => by
  obtain ⟨b, off, e, hb, hc⟩ := h hn
  exact ⟨b, off, e, hb, fun j u hu => (hk _ hb).trans (hc j u hu)⟩
theorem Rd.more (h : Rd w B A vs) (hB : B ≤ B') : Rd w B' A vs := fun hn => by
  obtain ⟨b, off, e, hb, hc⟩ := h hn
  exact ⟨b, off, e, by omega, hc⟩
theorem Rd.below (h : Rd w B A vs) (hb : Below B w w') : Rd w' B A vs := h.keep fun _ hp => hb.cell hp
theorem Rd.drew (h : Rd w B A vs) : Rd w.drew B A vs := h
theorem Rd.drewN (h : Rd w B A vs) (k : Nat) : Rd (w.drewN k) B A vs := h
theorem Rd.alloc (h : Rd w B A vs) (hB : B ≤ w.heap.size) (o : Obj) : Rd (w.alloc o) B A vs := h.keep fun p hp => World.cell?_alloc_lt w o p (by omega)
theorem Rd.setCell (h : Rd w B A vs) {p : Addr} (hB : B ≤ p.block) (u : Value) : Rd (w.setCell p u) B A vs :=
  h.keep fun q hq => World.cell?_setCell_other w p q u (fun e => by subst e; omega)
theorem Rd.grown (h : Rd w B A vs) {row : Option Nat} (hg : w.grownBy w' row) (hB : B ≤ w.heap.size) (hr : ∀ g, row = some g → B ≤ g) : Rd w' B A vs :=
  h.keep fun p hp => World.cell?_of_block (hg.block p.block (by omega) (fun e => by have := hr _ e.symm; omega))
theorem Rd.grownBy (h : Rd w B A vs) {row : Option Nat} (hg : w.grownBy w' row) (hB : B ≤ w.heap.size) (hr : ∀ b off, A = some ⟨b, off, none⟩ → some b ≠ row) : Rd w' B A vs := fun hn => by
  obtain ⟨b, off, e, hb, hc⟩ := h hn
  exact ⟨b, off, e, hb, fun j u hu => (World.cell?_of_block (hg.block b (by omega) (hr b off e))).trans (hc j u hu)⟩
theorem Rd.nil_ : Rd w B A [] := fun h => absurd h (by simp)
/-- A later part: 's[k:]'; the model keeps the old address where k is the capacity. -/
theorem Rd.cut (h : Rd w B A vs) {k cap : Nat} (hc : vs.length ≤ cap) :
    Rd w B (if cap = k then A else A.map (·.add k)) (vs.drop k) := fun hn => by
  rw [List.length_drop] at hn
  obtain ⟨b, off, rfl, hb, hcell⟩ := h (by omega)
  rw [if_neg (by omega)]
  refine ⟨b, off + k, by simp [add_off], hb, fun j u hu => ?_⟩
  rw [List.getElem?_drop] at hu
  rw [Nat.add_assoc]
  exact hcell _ u hu
/-- A beginning: 's[:k]'. -/
theorem Rd.take (h : Rd w B A vs) (k : Nat) : Rd w B A (vs.take k) := fun hn => by
  rw [List.length_take] at hn
  obtain ⟨b, off, rfl, hb, hcell⟩ := h (by omega)
  exact ⟨b, off, rfl, hb, fun j u hu => hcell j u (by rw [List.getElem?_take] at hu; split at hu <;> simp_all)⟩
theorem Rd.of_own {base n c : Nat} {e : TypeId} (h : w.ownsRow base e 1 (.slice A n c) n vs) : Rd w w.heap.size A vs := fun hn => by
  have hl := h.1
  obtain ⟨g, cap, hv, _, hlt⟩ := h.form (by omega)
  have hA : A = some ⟨g, 0, none⟩ := by injection hv
  subst hA
  refine ⟨g, 0, rfl, hlt, fun j u hu => ?_⟩
  have := h.cells (g := g) rfl j u hu
  rwa [add_off] at this
/-- A block that was made of these cells. -/
theorem Rd.made (w : World) (cs : Array Value) (e : TypeId) : Rd (w.alloc (.cells cs e)) (w.heap.size + 1) (some ⟨w.heap.size, 0, none⟩) cs.toList := fun _ =>
  ⟨w.heap.size, 0, rfl, by omega, fun j u hu => by
    rw [World.cell?_alloc_at _ _ _ _ rfl]
    simpa using hu⟩
theorem Rd.made' (w : World) (cs : Array Value) (e : TypeId) : Rd (w.alloc (.cells cs e)) (w.alloc (.cells cs e)).heap.size (some ⟨w.heap.size, 0, none⟩) cs.toList := (Rd.made w cs e).more (by simp)
theorem Rd.add_ {b off : Nat} (h : Rd w B (some ⟨b, off, none⟩) vs) : ∀ j u, vs[j]? = some u → w.cell? ((⟨b, off, none⟩ : Addr).add j) = some u := fun j u hu => by
  obtain ⟨b', off', e, _, hc⟩ := h (by have := (List.getElem?_eq_some_iff.1 hu).1; omega)
  injection e with e; injection e with e1 e2 _
  subst e1 e2
  rw [add_off]
  exact hc j u hu
end

theorem cell8 {w : World} {b off : Nat} {l : List UInt8} (hc : ∀ j u, (l.map B8)[j]? = some u → w.cell? ⟨b, off + j, none⟩ = some u) {k : Nat} (hk : k < l.length) :
    w.cell? ⟨b, off + k, none⟩ = some (.int .u8 ((l[k].toNat : Nat) : Int)) := hc k _ (by simp [hk, B8])
theorem cell64 {w : World} {b off : Nat} {l : List UInt64} (hc : ∀ j u, (l.map B64)[j]? = some u → w.cell? ⟨b, off + j, none⟩ = some u) {k : Nat} (hk : k < l.length) :
    w.cell? ⟨b, off + k, none⟩ = some (.int .u64 ((l[k].toNat : Nat) : Int)) := hc k _ (by simp [hk, B64])

theorem one8 (l : List UInt8) : ∀ u ∈ l.map B8, u.oneCell' = true := by
  intro u hu
  obtain ⟨c, _, rfl⟩ := List.mem_map.1 hu
  rfl

/-- 'string(b)'. -/
theorem run_bytes {P : Program} (w : World) (src dst e : TypeId) (hs : P.underlying src = some (.slice e)) (he : P.underlying e = some (.int .u8)) (hd : P.underlying dst = some .string)
    (A : Option Addr) (l : List UInt8) (c B : Nat) (hr : Rd w B A (l.map B8)) : (convert src dst (.slice A l.length c)).run P w = .ok (.string ⟨l.toArray⟩) w := by
  by_cases h0 : l = []
  · subst h0
    rw [run_convert_bytes_string w src dst e A _ c hs he hd]
    unfold Conv.bytesToString
    cases A with
    | none => simp [Sem.run_pure]; rfl
    | some a => simp [Sem.run_pure, loadCells, loadCellsFrom]; rfl
  · obtain ⟨b, off, rfl, _, hc⟩ := hr (by simp; exact List.length_pos_iff.2 h0)
    have hsz : (ByteArray.mk l.toArray).size = l.length := by show l.toArray.size = _; simp
    have := Lib.run_convert_whole (P := P) w src e dst hs he hd b off ⟨l.toArray⟩ (fun i hi => by
      have hi' : i < l.length := by rw [hsz] at hi; exact hi
      rw [cell8 hc hi']
      rfl) c
    rwa [hsz] at this

end Go.Proofs.YtkgmcabamhpjhaaGreat.Words

namespace Go.Proofs.YtkgmcabamhpjhaaGreat.Km
open Go Go.RowKit Words

/-- Something new, of a kind of its own. -/
def kmark (K : Nat → Nat) (n m : Nat) : Nat → Nat := fun b => if b < n then K b else m
theorem kmark_new {K : Nat → Nat} {n m b : Nat} (h : n ≤ b) : kmark K n m b = m := if_neg (by omega)
theorem kmark_old {K : Nat → Nat} {n m b : Nat} (h : b < n) : kmark K n m b = K b := if_pos h

/-- Only blocks whose number is in S have changed, and new ones have come. -/
structure Mv (K K' : Nat → Nat) (S : Nat → Prop) (w w' : World) : Prop where
  os : w'.os = w.os
  tape : w'.tape = w.tape
  output : w'.output = w.output
  size : w.heap.size ≤ w'.heap.size
  block : ∀ i, i < w.heap.size → ¬ S (K i) → w'.heap[i]? = w.heap[i]?
  kind : ∀ i, i < w.heap.size → K' i = K i
section
variable {K K' K'' : Nat → Nat} {S S' : Nat → Prop} {w w' w'' : World}
theorem Mv.refl (K : Nat → Nat) (S : Nat → Prop) (w : World) : Mv K K S w w := ⟨rfl, rfl, rfl, Nat.le_refl _, fun _ _ _ => rfl, fun _ _ => rfl⟩
theorem Mv.trans (h : Mv K K' S w w') (h' : Mv K' K'' S w' w'') : Mv K K'' S w w'' :=
  ⟨h'.os.trans h.os, h'.tape.trans h.tape, h'.output.trans h.output, Nat.le_trans h.size h'.size,
    fun i hi hk => (h'.block i (by have := h.size; omega) (by rw [h.kind i hi]; exact hk)).trans (h.block i hi hk),
    fun i hi => (h'.kind i (by have := h.size; omega)).trans (h.kind i hi)⟩
theorem Mv.widen (h : Mv K K' S w w') (hS : ∀ o, S o → S' o) : Mv K K' S' w w' := ⟨h.os, h.tape, h.output, h.size, fun i hi hk => h.block i hi (fun e => hk (hS _ e)), h.kind⟩
theorem Mv.new (hb : Below w.heap.size w w') (m : Nat) : Mv K (kmark K w.heap.size m) S w w' := ⟨hb.os, hb.tape, hb.output, hb.size, fun i hi _ => hb.block i hi, fun _i hi => if_pos hi⟩
theorem Mv.same (hb : Below w.heap.size w w') : Mv K K S w w' := ⟨hb.os, hb.tape, hb.output, hb.size, fun i hi _ => hb.block i hi, fun _ _ => rfl⟩
theorem Mv.below (h : Mv K K' S w w') (hS : ∀ i, i < w.heap.size → ¬ S (K i)) : Below w.heap.size w w' := ⟨h.os, h.tape, h.output, h.size, fun i hi => h.block i hi (hS i hi)⟩
/-- A store into a block of S. -/
theorem Mv.poke {a : Addr} (u : Value) (h : S (K a.block)) : Mv K K S w (w.setCell a u) := ⟨rfl, rfl, rfl, by simp, fun i hi hk => heap_setCell_other w a i u (fun e => hk (by rw [e]; exact h)), fun _ _ => rfl⟩
theorem rd_mv {A : Option Addr} {vs : List Value} {m : Nat} (h : Mv K K' S w w') (hm : ¬ S m) (hr : Rd w w.heap.size A vs) (hk : ∀ b off, A = some ⟨b, off, none⟩ → 0 < vs.length → K b = m) : Rd w' w'.heap.size A vs ∧ ∀ b off, A = some ⟨b, off, none⟩ → 0 < vs.length → K' b = m := by
  refine ⟨fun hn => ?_, fun b off e hn => ?_⟩
  · obtain ⟨b, off, e, hb, hc⟩ := hr hn
    refine ⟨b, off, e, Nat.lt_of_lt_of_le hb h.size, fun j u hu => ?_⟩
    rw [World.cell?_of_block (a := ⟨b, off + j, none⟩) (h.block b hb (by rw [hk b off e hn]; exact hm))]
    exact hc j u hu
  · obtain ⟨b', off', e', hb', _⟩ := hr hn
    rw [e] at e'
    injection e' with e'
    injection e' with e'
    subst e'
    exact (h.kind b hb').trans (hk b off e hn)
/-- A row of one's own, of number m, stays. -/
theorem own_mv {base n size m : Nat} {e : TypeId} {v : Value} {xs : List Value} (h : w.ownsRow base e size v n xs) (hk : ∀ q, v.ownBlock = some q → K q = m) (ht : Mv K K' S w w') (hm : ¬ S m) : w'.ownsRow base e size v n xs ∧ ∀ q, v.ownBlock = some q → K' q = m := by
  obtain ⟨h1, h2⟩ := h
  rcases h2 with ⟨rfl, h2⟩ | ⟨g, cap, cur, rfl, h3, h4, h5⟩
  · exact ⟨⟨h1, .inl ⟨rfl, h2⟩⟩, fun q e => by cases e⟩
  · have hg := (Array.getElem?_eq_some_iff.1 h4).1
    have hk1 := hk g rfl
    refine ⟨⟨h1, .inr ⟨g, cap, cur, rfl, h3, (ht.block g hg (by rw [hk1]; exact hm)).trans h4, h5⟩⟩, fun q e => ?_⟩
    injection e with e
    subst e
    exact (ht.kind g hg).trans hk1
end

end Go.Proofs.YtkgmcabamhpjhaaGreat.Km

namespace Go.Proofs.YtkgmcabamhpjhaaGreat.Plain
open Go

/-- A number read: k bytes are behind us, they say acc. The number, how many bytes it has in all, the error. -/
def dec (k acc : Nat) : List UInt8 → Nat × Nat × Nat
  | [] => (0, 0, 5)
  | c :: r =>
    if k = 9 ∧ 1 < c.toNat then (0, 0, 6)
    else if 128 ≤ c.toNat then dec (k + 1) (acc + c.toNat % 128 * 128 ^ k) r
    else if c.toNat = 0 ∧ 0 < k then (0, 0, 6)
    else (acc + c.toNat * 128 ^ k, k + 1, 0)

/-- A number read at a place. -/
def getN (l : List UInt8) (at_ : Int) : Int := if at_ < 0 ∨ (l.length : Int) < at_ then 0 else ((dec 0 0 (l.drop at_.toNat)).1 : Int)
def getE (l : List UInt8) (at_ : Int) : Int := if at_ < 0 ∨ (l.length : Int) < at_ then 1 else ((dec 0 0 (l.drop at_.toNat)).2.2 : Int)
def getTo (l : List UInt8) (at_ : Int) : Int := if at_ < 0 ∨ (l.length : Int) < at_ then 0 else if (dec 0 0 (l.drop at_.toNat)).2.2 = 0 then at_ + ((dec 0 0 (l.drop at_.toNat)).2.1 : Int) else 0

theorem drop_cons {l : List UInt8} {k : Nat} (h : k < l.length) : l.drop k = l[k] :: l.drop (k + 1) := List.drop_eq_getElem_cons h

section
variable {l : List UInt8} {k acc : Nat}
theorem dec_end (h : l.length ≤ k) : dec k acc (l.drop k) = (0, 0, 5) := by rw [List.drop_eq_nil_of_le h]; rfl
theorem dec_ten (h : k < l.length) (h9 : k = 9) (hc : 1 < l[k].toNat) : dec k acc (l.drop k) = (0, 0, 6) := by
  rw [drop_cons h, dec, if_pos ⟨h9, hc⟩]
theorem dec_more (h : k < l.length) (h9 : ¬ (k = 9 ∧ 1 < l[k].toNat)) (hc : 128 ≤ l[k].toNat) : dec k acc (l.drop k) = dec (k + 1) (acc + l[k].toNat % 128 * 128 ^ k) (l.drop (k + 1)) := by
  rw [drop_cons h, dec, if_neg h9, if_pos hc]
theorem dec_zero (h : k < l.length) (hc : l[k].toNat = 0) (hk : 0 < k) : dec k acc (l.drop k) = (0, 0, 6) := by
  rw [drop_cons h, dec, if_neg (by omega), if_neg (by omega), if_pos ⟨hc, hk⟩]
theorem dec_last (h : k < l.length) (h9 : ¬ (k = 9 ∧ 1 < l[k].toNat)) (hc : l[k].toNat < 128) (h0 : ¬ (l[k].toNat = 0 ∧ 0 < k)) : dec k acc (l.drop k) = (acc + l[k].toNat * 128 ^ k, k + 1, 0) := by
  rw [drop_cons h, dec, if_neg h9, if_neg (by omega), if_neg h0]
end

/-- 'n | c << 7k' is a sum. -/
theorem or_shl (k acc c : Nat) (hk : k ≤ 9) (hacc : acc < 128 ^ k) (hc : c < 128) (h9 : k = 9 → c ≤ 1) :
    bits .or .u64 (acc : Int) ((c * 128 ^ k : Nat) : Int) = ((acc + c * 128 ^ k : Nat) : Int) ∧ acc + c * 128 ^ k < 18446744073709551616 ∧ (k < 9 → acc + c * 128 ^ k < 128 ^ (k + 1)) := by
  have hs : k = 0 ∨ k = 1 ∨ k = 2 ∨ k = 3 ∨ k = 4 ∨ k = 5 ∨ k = 6 ∨ k = 7 ∨ k = 8 ∨ k = 9 := by omega
  rcases hs with rfl | rfl | rfl | rfl | rfl | rfl | rfl | rfl | rfl | rfl
  · simp only [Nat.pow_zero, Nat.mul_one] at hacc ⊢
    refine ⟨?_, by omega, by omega⟩
    rw [u64_orv0 _ _ (by omega) (by omega) (by omega) (by omega) (by omega)]; omega
  · simp only [Nat.reducePow, Nat.reduceAdd] at hacc ⊢
    refine ⟨?_, by omega, by omega⟩
    rw [u64_orv7 _ _ (by omega) (by omega) (by omega) (by omega) (by omega)]; omega
  · simp only [Nat.reducePow, Nat.reduceAdd] at hacc ⊢
    refine ⟨?_, by omega, by omega⟩
    rw [u64_orv14 _ _ (by omega) (by omega) (by omega) (by omega) (by omega)]; omega
  · simp only [Nat.reducePow, Nat.reduceAdd] at hacc ⊢
    refine ⟨?_, by omega, by omega⟩
    rw [u64_orv21 _ _ (by omega) (by omega) (by omega) (by omega) (by omega)]; omega
  · simp only [Nat.reducePow, Nat.reduceAdd] at hacc ⊢
    refine ⟨?_, by omega, by omega⟩
    rw [u64_orv28 _ _ (by omega) (by omega) (by omega) (by omega) (by omega)]; omega
  · simp only [Nat.reducePow, Nat.reduceAdd] at hacc ⊢
    refine ⟨?_, by omega, by omega⟩
    rw [u64_orv35 _ _ (by omega) (by omega) (by omega) (by omega) (by omega)]; omega
  · simp only [Nat.reducePow, Nat.reduceAdd] at hacc ⊢
    refine ⟨?_, by omega, by omega⟩
    rw [u64_orv42 _ _ (by omega) (by omega) (by omega) (by omega) (by omega)]; omega
  · simp only [Nat.reducePow, Nat.reduceAdd] at hacc ⊢
    refine ⟨?_, by omega, by omega⟩
    rw [u64_orv49 _ _ (by omega) (by omega) (by omega) (by omega) (by omega)]; omega
  · simp only [Nat.reducePow, Nat.reduceAdd] at hacc ⊢
    refine ⟨?_, by omega, by omega⟩
    rw [u64_orv56 _ _ (by omega) (by omega) (by omega) (by omega) (by omega)]; omega
  · simp only [Nat.reducePow, Nat.reduceAdd] at hacc ⊢
    refine ⟨?_, by omega, by omega⟩
    rw [u64_orv63 _ _ (by omega) (by omega) (by omega) (by omega) (by omega)]; omega

theorem uv_more : ∀ (i n : Nat), i + 1 < (Lib.uvarint n).length → 128 ≤ ((Lib.uvarint n).getD i 0).toNat
  | 0, n, h => by
    by_cases hn : n < 128
    · rw [Lib.uvarint_small hn] at h; simp at h
    · rw [Lib.uvarint_big (by omega)]; simp; omega
  | i + 1, n, h => by
    by_cases hn : n < 128
    · rw [Lib.uvarint_small hn] at h; simp at h
    · rw [Lib.uvarint_big (by omega)] at h ⊢
      exact uv_more i (n / 128) (by simpa using h)
theorem uv_last : ∀ (k n : Nat), (Lib.uvarint n).length = k + 1 → ((Lib.uvarint n).getD k 0).toNat < 128 ∧ (((Lib.uvarint n).getD k 0).toNat = 0 → n = 0)
  | 0, n, h => by
    by_cases hn : n < 128
    · rw [Lib.uvarint_small hn]; simp; omega
    · rw [Lib.uvarint_big (by omega)] at h
      have := Lib.uvarint_pos (n / 128)
      rw [List.length_cons] at h; omega
  | k + 1, n, h => by
    by_cases hn : n < 128
    · rw [Lib.uvarint_small hn] at h; simp at h
    · rw [Lib.uvarint_big (by omega)] at h ⊢
      have := uv_last k (n / 128) (by simpa using h)
      refine ⟨this.1, fun h0 => ?_⟩
      have := this.2 h0
      omega
/-- How many bytes: k are counted, m is left. -/
def left_ (m : Nat) : Nat := if m = 0 then 0 else (Lib.uvarint m).length
theorem left_step (m : Nat) (h : m ≠ 0) : left_ m = 1 + left_ (m / 128) := by
  unfold left_
  rw [if_neg h]
  by_cases hm : m < 128
  · rw [Lib.uvarint_small hm, if_pos (by omega)]; rfl
  · rw [Lib.uvarint_big (by omega), if_neg (by omega)]; simp; omega
theorem uv_left (n : Nat) : (Lib.uvarint n).length = 1 + left_ (n / 128) := by
  by_cases h : n = 0
  · subst h; rw [Lib.uvarint_small (by omega)]; rfl
  · rw [← left_step n h]; unfold left_; rw [if_neg h]
theorem left_zero : left_ 0 = 0 := rfl
theorem left_pos (m : Nat) (h : m ≠ 0) : 0 < left_ m := by rw [left_step m h]; omega

/-- The shortest forms, one behind the other. -/
def encs (l : List UInt64) : List UInt8 := l.flatMap fun n => Lib.uvarint n.toNat
theorem encs_length (l : List UInt64) : (encs l).length ≤ 10 * l.length := by
  induction l with
  | nil => simp [encs]
  | cons a r ih =>
    have h := Lib.uvarint_length64 (x := a.toNat) a.toNat_lt
    simp only [encs, List.flatMap_cons, List.length_append, List.length_cons] at ih ⊢
    omega
theorem encs_one (n : UInt64) : encs [n] = Lib.uvarint n.toNat := by simp [encs]
theorem encs_snoc {l : List UInt64} {k : Nat} (h : k < l.length) : encs (l.take (k + 1)) = encs (l.take k) ++ Lib.uvarint l[k].toNat := by
  rw [List.take_succ_eq_append_getElem h, encs, List.flatMap_append]
  simp [encs]

theorem andNot128_all : ∀ a : Fin 256, bits .andNot .u8 ((a.val : Nat) : Int) 128 = ((a.val % 128 : Nat) : Int) := by decide +kernel
theorem andNot128 (x : Nat) (h : x < 256) : bits .andNot .u8 (x : Int) 128 = ((x % 128 : Nat) : Int) := andNot128_all ⟨x, h⟩
theorem two_pow7 (k : Nat) : (2 : Int) ^ (7 * k) = ((128 ^ k : Nat) : Int) := by
  rw [Int.pow_mul]; simp
/-- 'n |= uint64(c&^more) << (sevens * i)'. -/
theorem step_val (k acc x : Nat) (E : Int) (hE : E = 2 ^ (7 * k)) (hk : k ≤ 9) (hacc : acc < 128 ^ k) (hx : x < 256) (h9 : k = 9 → x ≤ 1) :
    bits .or .u64 (acc : Int) (IntKind.u64.wrap (IntKind.u64.wrap (bits .andNot .u8 (x : Int) 128) * E)) = ((acc + x % 128 * 128 ^ k : Nat) : Int) := by
  have h := or_shl k acc (x % 128) hk hacc (by omega) (by omega)
  rw [andNot128 x hx, hE, two_pow7, IntKind.wrap_u64, IntKind.wrap_u64]
  have e1 : ((x % 128 : Nat) : Int) % 18446744073709551616 = ((x % 128 : Nat) : Int) := by omega
  have e2 : (((x % 128 : Nat) : Int) * ((128 ^ k : Nat) : Int)) % 18446744073709551616 = ((x % 128 * 128 ^ k : Nat) : Int) := by
    rw [← Int.natCast_mul]
    have := h.2.1
    generalize x % 128 * 128 ^ k = y at *
    omega
  rw [e1, e2, h.1]

/-- 'n + uint64(c%128)*unit', and the next unit. -/
theorem step_ref (k acc x : Nat) (hk : k ≤ 9) (hacc : acc < 128 ^ k) (h9 : k = 9 → x ≤ 1) :
    IntKind.u64.wrap ((acc : Int) + IntKind.u64.wrap ((x : Int) % 128 * ((128 ^ k : Nat) : Int))) = ((acc + x % 128 * 128 ^ k : Nat) : Int) := by
  rw [show (x : Int) % 128 = ((x % 128 : Nat) : Int) by omega]
  have h := or_shl k acc (x % 128) hk hacc (by omega) (by omega)
  rw [IntKind.wrap_u64, IntKind.wrap_u64, ← Int.natCast_mul]
  have := h.2.1
  generalize x % 128 * 128 ^ k = y at *
  omega
theorem unit_ref (k : Nat) (hk : k < 9) : IntKind.u64.wrap (((128 ^ k : Nat) : Int) * 128) = ((128 ^ (k + 1) : Nat) : Int) := by
  have h : 128 ^ (k + 1) ≤ 128 ^ 9 := Nat.pow_le_pow_right (by omega) (by omega)
  have e : 128 ^ (k + 1) = 128 ^ k * 128 := Nat.pow_succ ..
  rw [IntKind.wrap_u64, e]
  simp only [Nat.reducePow] at h
  omega

/-- A number that is written and read again, whatever stands behind it. -/
theorem dec_uvarint : ∀ (m : Nat) (k acc x : Nat) (r : List UInt8), m = 9 - k → k ≤ 9 → x * 128 ^ k < 18446744073709551616 → (0 < k → 0 < x) →
    dec k acc (Lib.uvarint x ++ r) = (acc + x * 128 ^ k, k + (Lib.uvarint x).length, 0) := by
  intro m
  induction m with
  | zero =>
    intro k acc x r hm hk hx hpos
    obtain rfl : k = 9 := by omega
    have hx1 : x ≤ 1 := by simp only [Nat.reducePow] at hx; omega
    have : x = 1 := by have := hpos (by omega); omega
    subst this
    rw [Lib.uvarint_small (by omega)]
    simp [dec]
  | succ m ih =>
    intro k acc x r hm hk hx hpos
    by_cases h : x < 128
    · rw [Lib.uvarint_small h]
      have e : x.toUInt8.toNat = x := by simp; omega
      simp only [List.cons_append, List.nil_append, dec, e, List.length_singleton]
      rw [if_neg (by omega), if_neg (by omega), if_neg (by have := hpos; omega)]
    · rw [Lib.uvarint_big (by omega)]
      have e : (x % 128 + 128).toUInt8.toNat = x % 128 + 128 := by simp; omega
      simp only [List.cons_append, dec, e, List.length_cons]
      rw [if_neg (by omega), if_pos (by omega)]
      have hd := Nat.div_add_mod x 128
      have hp : 128 ^ (k + 1) = 128 * 128 ^ k := by rw [Nat.pow_succ, Nat.mul_comm]
      have hq : x / 128 * 128 ^ (k + 1) ≤ x * 128 ^ k := by
        rw [hp, ← Nat.mul_assoc]
        exact Nat.mul_le_mul_right _ (by omega)
      rw [ih (k + 1) _ (x / 128) r (by omega) (by omega) (by omega) (by omega)]
      have h1 : (x % 128 + 128) % 128 = x % 128 := by omega
      have h2 : acc + x % 128 * 128 ^ k + x / 128 * 128 ^ (k + 1) = acc + x * 128 ^ k := by
        rw [hp, ← Nat.mul_assoc, Nat.add_assoc, ← Nat.add_mul]
        congr 2
        omega
      rw [h1, h2]
      simp only [Prod.mk.injEq, and_true, true_and]
      omega

/-- Each shorter beginning is too short. -/
theorem dec_short : ∀ (k acc x : Nat) (j : Nat), x * 128 ^ k < 18446744073709551616 → k ≤ 9 → j < (Lib.uvarint x).length → dec k acc ((Lib.uvarint x).take j) = (0, 0, 5) := by
  intro k acc x j
  induction j generalizing k acc x with
  | zero => intro _ _ _; simp [dec]
  | succ j ih =>
    intro hx hk hj
    by_cases h : x < 128
    · rw [Lib.uvarint_small h] at hj; simp at hj
    · rw [Lib.uvarint_big (by omega)] at hj ⊢
      have e : (x % 128 + 128).toUInt8.toNat = x % 128 + 128 := by simp; omega
      have hp : 128 ^ (k + 1) = 128 * 128 ^ k := by rw [Nat.pow_succ, Nat.mul_comm]
      have hq : x / 128 * 128 ^ (k + 1) ≤ x * 128 ^ k := by
        rw [hp, ← Nat.mul_assoc]
        exact Nat.mul_le_mul_right _ (by omega)
      have h9 : k ≠ 9 := by
        rintro rfl
        simp only [Nat.reducePow] at hx
        omega
      simp only [List.take_succ_cons, dec, e]
      rw [if_neg (by omega), if_pos (by omega)]
      exact ih (k + 1) _ (x / 128) (by omega) (by omega) (by simpa using hj)

/-- What is read is written as the bytes that were read. -/
theorem dec_back : ∀ (l : List UInt8) (k acc n c : Nat), k ≤ 9 → acc < 128 ^ k → dec k acc l = (n, c, 0) →
    ∃ x, n = acc + x * 128 ^ k ∧ c = k + (Lib.uvarint x).length ∧ (Lib.uvarint x).length ≤ l.length ∧ l.take (Lib.uvarint x).length = Lib.uvarint x ∧ (0 < k → 0 < x) ∧ n < 18446744073709551616 := by
  intro l
  induction l with
  | nil => intro k acc n c _ _ h; simp [dec] at h
  | cons b r ih =>
    intro k acc n c hk hacc h
    have hb := b.toNat_lt
    rw [dec] at h
    by_cases h9 : k = 9 ∧ 1 < b.toNat
    · rw [if_pos h9] at h; simp at h
    rw [if_neg h9] at h
    by_cases hc : 128 ≤ b.toNat
    · rw [if_pos hc] at h
      have hk9 : k < 9 := by omega
      have hs := (or_shl k acc (b.toNat % 128) hk hacc (by omega) (by omega)).2.2 hk9
      obtain ⟨x, h1, h2, h3, h4, h5, h6⟩ := ih (k + 1) _ n c (by omega) hs h
      have hx := h5 (by omega)
      have hp : 128 ^ (k + 1) = 128 * 128 ^ k := by rw [Nat.pow_succ, Nat.mul_comm]
      refine ⟨b.toNat % 128 + 128 * x, ?_, ?_, ?_, ?_, by omega, h6⟩
      · rw [h1, hp, Nat.add_mul, ← Nat.mul_assoc, Nat.mul_comm x 128]
        omega
      all_goals
        rw [Lib.uvarint_big (by omega)]
        have e1 : (b.toNat % 128 + 128 * x) / 128 = x := by omega
        have e2 : (b.toNat % 128 + 128 * x) % 128 + 128 = b.toNat := by omega
        rw [e1, e2]
        simp only [List.length_cons]
      · omega
      · omega
      · rw [List.take_succ_cons, h4]
        simp
    · rw [if_neg hc] at h
      by_cases h0 : b.toNat = 0 ∧ 0 < k
      · rw [if_pos h0] at h; simp at h
      rw [if_neg h0] at h
      simp only [Prod.mk.injEq, and_true] at h
      have hs := or_shl k acc b.toNat hk hacc (by omega) (by omega)
      refine ⟨b.toNat, h.1.symm, ?_, ?_, ?_, by omega, by rw [← h.1]; exact hs.2.1⟩ <;> rw [Lib.uvarint_small (by omega)]
      · simp; omega
      · simp
      · simp

theorem dec_lt {l : List UInt8} : (dec 0 0 l).1 < 18446744073709551616 := by
  suffices h : ∀ (l : List UInt8) (k acc : Nat), k ≤ 9 → acc < 128 ^ k → (dec k acc l).1 < 18446744073709551616 from h l 0 0 (by omega) (by decide)
  intro l
  induction l with
  | nil => intro k acc _ _; simp [dec]
  | cons b r ih =>
    intro k acc hk hacc
    have hb := b.toNat_lt
    rw [dec]
    by_cases h9 : k = 9 ∧ 1 < b.toNat
    · rw [if_pos h9]; simp
    rw [if_neg h9]
    by_cases hc : 128 ≤ b.toNat
    · rw [if_pos hc]
      exact ih (k + 1) _ (by omega) ((or_shl k acc (b.toNat % 128) hk hacc (by omega) (by omega)).2.2 (by omega))
    · rw [if_neg hc]
      by_cases h0 : b.toNat = 0 ∧ 0 < k
      · rw [if_pos h0]; simp
      rw [if_neg h0]
      exact (or_shl k acc b.toNat hk hacc (by omega) (by omega)).2.1

/-- 'byte(n) | more'. -/
theorem or128 (x : Nat) : bits .or .u8 (IntKind.u8.wrap (x : Int)) 128 = (((x % 128 + 128).toUInt8.toNat : Nat) : Int) := by
  rw [IntKind.wrap_u8, Lib.u8_or128_any _ (by omega) (by omega)]
  simp
  omega
theorem or128' (x : Nat) : bits .or .u8 ((x : Int) % 256) 128 = (((x % 128 + 128).toUInt8.toNat : Nat) : Int) := by
  rw [← IntKind.wrap_u8, or128]
theorem toUInt8_small (x : Nat) (h : x < 128) : (x : Int) = ((x.toUInt8.toNat : Nat) : Int) := by
  simp
  omega
/-- 'byte(n)' of a small number. -/
theorem byte_small (x : Nat) (_h : x < 128) : IntKind.u8.wrap (x : Int) = ((x.toUInt8.toNat : Nat) : Int) := by
  rw [IntKind.wrap_u8]
  simp

end Go.Proofs.YtkgmcabamhpjhaaGreat.Plain

namespace Go.Proofs.YtkgmcabamhpjhaaGreat.PkPlain
open Go

/-- The bits that a number needs. -/
def need (n : Nat) : Nat := if n = 0 then 0 else n.log2 + 1
theorem need_le (n w : Nat) : need n ≤ w ↔ n < 2 ^ w := by
  unfold need
  split
  · subst_vars
    simp [Nat.two_pow_pos]
  · rename_i h
    rw [← Nat.log2_lt h]
    omega
theorem need_zero : need 0 = 0 := rfl
theorem need_half (n : Nat) (h : 0 < n) : need n = need (n / 2) + 1 := by
  apply Nat.le_antisymm
  · rw [need_le, Nat.pow_succ]
    have := (need_le (n / 2) _).1 (Nat.le_refl _)
    omega
  · have h1 := (need_le n _).1 (Nat.le_refl _)
    have hp : 0 < need n := by
      rcases Nat.eq_zero_or_pos (need n) with h0 | h0
      · rw [h0] at h1; simp at h1; omega
      · exact h0
    have h2 : need (n / 2) ≤ need n - 1 := by
      rw [need_le]
      have e : 2 ^ need n = 2 ^ (need n - 1) * 2 := by rw [← Nat.pow_succ]; congr 1; omega
      omega
    omega
theorem need_64 {n : Nat} (h : n < 2 ^ 64) : need n ≤ 64 := (need_le _ _).2 h

/-- The greatest need of all. -/
def width : List Nat → Nat
  | [] => 0
  | g :: r => max (need g) (width r)
theorem width_le (gs : List Nat) (w : Nat) : width gs ≤ w ↔ ∀ g ∈ gs, g < 2 ^ w := by
  induction gs with
  | nil => simp [width]
  | cons g r ih =>
    rw [width, Nat.max_le, ih, need_le]
    simp
theorem width_snoc (gs : List Nat) (g : Nat) : width (gs ++ [g]) = max (width gs) (need g) := by
  induction gs with
  | nil => simp [width]
  | cons x r ih => simp only [List.cons_append, width, ih]; omega

/-- Numbers of w bits each, one behind the other. -/
def stack (w : Nat) : List Nat → Nat
  | [] => 0
  | g :: r => g + 2 ^ w * stack w r
theorem stack_lt {w : Nat} : ∀ {gs : List Nat}, (∀ g ∈ gs, g < 2 ^ w) → stack w gs < 2 ^ (w * gs.length)
  | [], _ => by simp [stack]
  | g :: r, h => by
    have h1 := stack_lt (w := w) (gs := r) (fun x hx => h x (by simp [hx]))
    have h2 := h g (by simp)
    rw [stack, List.length_cons, Nat.mul_succ, Nat.pow_add, Nat.mul_comm (2 ^ (w * r.length))]
    calc g + 2 ^ w * stack w r < 2 ^ w + 2 ^ w * stack w r := by omega
      _ = 2 ^ w * (stack w r + 1) := by rw [Nat.mul_succ, Nat.add_comm]
      _ ≤ 2 ^ w * 2 ^ (w * r.length) := Nat.mul_le_mul_left _ h1
theorem stack_drop {w : Nat} : ∀ (i : Nat) {gs : List Nat}, (∀ g ∈ gs, g < 2 ^ w) → stack w gs / 2 ^ (w * i) = stack w (gs.drop i)
  | 0, gs, _ => by simp
  | i + 1, [], _ => by simp [stack]
  | i + 1, g :: r, h => by
    have h2 := h g (by simp)
    rw [List.drop_succ_cons, ← stack_drop i (fun x hx => h x (by simp [hx])), stack, Nat.mul_succ, Nat.pow_add, Nat.mul_comm (2 ^ (w * i)), ← Nat.div_div_eq_div_mul]
    congr 1
    rw [Nat.add_mul_div_left _ _ (Nat.two_pow_pos w), Nat.div_eq_of_lt h2, Nat.zero_add]
/-- Number i of those that were laid. -/
theorem stack_at {w i : Nat} {gs : List Nat} (h : ∀ g ∈ gs, g < 2 ^ w) (hi : i < gs.length) : stack w gs / 2 ^ (w * i) % 2 ^ w = gs[i] := by
  rw [stack_drop i h, List.drop_eq_getElem_cons hi, stack, Nat.add_mul_mod_self_left]
  exact Nat.mod_eq_of_lt (h _ (List.getElem_mem hi))
/-- Bit k of number i. -/
theorem stack_bit {w i k : Nat} {gs : List Nat} (h : ∀ g ∈ gs, g < 2 ^ w) (hi : i < gs.length) (hk : k < w) : stack w gs / 2 ^ (w * i + k) % 2 = gs[i] / 2 ^ k % 2 := by
  rw [← stack_at h hi, Nat.pow_add, ← Nat.div_div_eq_div_mul]
  generalize stack w gs / 2 ^ (w * i) = n
  have e : 2 ^ w = 2 ^ k * (2 * 2 ^ (w - k - 1)) := by rw [← Nat.pow_succ', ← Nat.pow_add]; congr 1; omega
  rw [e, Nat.mod_mul_right_div_self, Nat.mod_mul_right_mod]

/-- A number's first m bits, each a byte. -/
def bitsOf : Nat → Nat → List UInt8
  | 0, _ => []
  | m + 1, n => (n % 2).toUInt8 :: bitsOf m (n / 2)
theorem bitsOf_length : ∀ (m n : Nat), (bitsOf m n).length = m
  | 0, _ => rfl
  | m + 1, n => by simp [bitsOf, bitsOf_length m]
theorem bitsOf_snoc : ∀ (m n : Nat), bitsOf (m + 1) n = bitsOf m n ++ [(n / 2 ^ m % 2).toUInt8]
  | 0, n => by simp [bitsOf]
  | m + 1, n => by
    have ih := bitsOf_snoc m (n / 2)
    rw [bitsOf, ih]
    simp only [bitsOf, List.cons_append]
    rw [Nat.div_div_eq_div_mul, ← Nat.pow_succ']
theorem bitsOf_at : ∀ (m n j : Nat) (h : j < (bitsOf m n).length), ((bitsOf m n)[j]).toNat = n / 2 ^ j % 2
  | 0, _, _, h => by simp [bitsOf] at h
  | m + 1, n, 0, _ => by simp [bitsOf]; omega
  | m + 1, n, j + 1, h => by
    have ih := bitsOf_at m (n / 2) j (by simpa [bitsOf] using h)
    simp only [bitsOf, List.getElem_cons_succ]
    rw [ih, Nat.div_div_eq_div_mul, ← Nat.pow_succ']

/-- A number's first c bytes. -/
def digs : Nat → Nat → List UInt8
  | 0, _ => []
  | c + 1, n => (n % 256).toUInt8 :: digs c (n / 256)
theorem digs_length : ∀ (c n : Nat), (digs c n).length = c
  | 0, _ => rfl
  | c + 1, n => by simp [digs, digs_length c]
theorem digs_snoc : ∀ (c n : Nat), digs (c + 1) n = digs c n ++ [(n / 256 ^ c % 256).toUInt8]
  | 0, n => by simp [digs]
  | c + 1, n => by
    have ih := digs_snoc c (n / 256)
    rw [digs, ih]
    simp only [digs, List.cons_append]
    rw [Nat.div_div_eq_div_mul, ← Nat.pow_succ']
/-- The number that bytes are, the lowest first. -/
def num : List UInt8 → Nat
  | [] => 0
  | b :: r => b.toNat + 256 * num r
theorem num_lt : ∀ (l : List UInt8), num l < 256 ^ l.length
  | [] => by simp [num]
  | b :: r => by
    have h1 := num_lt r
    have h2 := b.toNat_lt
    rw [num, List.length_cons, Nat.pow_succ]
    omega
theorem num_digs : ∀ (c n : Nat), num (digs c n) = n % 256 ^ c
  | 0, n => by simp [num, digs, Nat.mod_one]
  | c + 1, n => by
    rw [digs, num, num_digs c, Nat.pow_succ', Nat.mod_mul]
    congr 1
    simp
theorem digs_num : ∀ (l : List UInt8), digs l.length (num l) = l
  | [] => rfl
  | b :: r => by
    have h2 := b.toNat_lt
    rw [List.length_cons, digs, num]
    have e1 : (b.toNat + 256 * num r) % 256 = b.toNat := by omega
    have e2 : (b.toNat + 256 * num r) / 256 = num r := by omega
    rw [e1, e2, digs_num r]
    simp
/-- Byte j of the number that bytes are. -/
theorem num_at : ∀ (l : List UInt8) (j : Nat) (h : j < l.length), num l / 256 ^ j % 256 = (l[j]).toNat
  | [], _, h => by simp at h
  | b :: r, 0, _ => by have := b.toNat_lt; simp [num]
  | b :: r, j + 1, h => by
    have h2 := b.toNat_lt
    rw [num, Nat.pow_succ', ← Nat.div_div_eq_div_mul]
    have e2 : (b.toNat + 256 * num r) / 256 = num r := by omega
    rw [e2]
    simpa using num_at r j (by simpa using h)
/-- Bit j of it: bit j % 8 of byte j / 8. -/
theorem num_bit (l : List UInt8) (j : Nat) (h : j / 8 < l.length) : (l[j / 8]).toNat / 2 ^ (j % 8) % 2 = num l / 2 ^ j % 2 := by
  rw [← num_at l (j / 8) h]
  have e1 : 2 ^ j = 256 ^ (j / 8) * 2 ^ (j % 8) := by
    rw [show (256 : Nat) = 2 ^ 8 from rfl, ← Nat.pow_mul, ← Nat.pow_add]
    congr 1
    omega
  rw [e1, ← Nat.div_div_eq_div_mul]
  generalize num l / 256 ^ (j / 8) = n
  have hk : j % 8 < 8 := Nat.mod_lt _ (by omega)
  generalize j % 8 = k at *
  have e : 256 = 2 ^ k * (2 * 2 ^ (8 - k - 1)) := by
    rw [← Nat.pow_succ', ← Nat.pow_add, show (256 : Nat) = 2 ^ 8 from rfl]
    congr 1
    omega
  rw [e, Nat.mod_mul_right_div_self, Nat.mod_mul_right_mod]
end Go.Proofs.YtkgmcabamhpjhaaGreat.PkPlain

namespace Go.Proofs.YtkgmcabamhpjhaaGreat.AppN
open Go Go.RowKit Words

section
variable {P : Program} (w : World)

theorem run_append_nil (base size : Nat) (t ty e : TypeId) (i : TypeInfo) (ht : P.underlying t = some (.slice e)) (hi : P.info? e = some i)
    (v : Value) (n : Nat) (xs : List Value) (hown : w.ownsRow base e size v n xs) (c : Nat) : (Builtin.append_ #[t, t] ty #[v, .slice none 0 c]).run P w = .ok v w := by
  rcases hown.2 with ⟨rfl, rfl⟩ | ⟨g, cap, cur, rfl, _, _, hnc, _⟩
  · simp [Builtin.append_, run_underlying ht, sizeOf, typeInfo, hi, Builtin.lenOf, Builtin.firstCells]
  · simp [Builtin.append_, run_underlying ht, sizeOf, typeInfo, hi, Builtin.lenOf, Builtin.firstCells, hnc, storeCells]

theorem run_append_rd (base size : Nat) (t ty e : TypeId) (i : TypeInfo) (z : Value) (bytes : Nat) (ht : P.underlying t = some (.slice e)) (hi : P.info? e = some i) (hz : i.zero = some z)
    (hsize : i.size = size) (hby : i.bytes = bytes) (hzs : z.cells.size = size) (hsz : 0 < size)
    (v : Value) (n : Nat) (xs : List Value) (hown : w.ownsRow base e size v n xs)
    (B : Nat) (A : Option Addr) (m c : Nat) (news : List Value) (hl : news.length = m * size) (hr : Rd w B A news) (h1 : ∀ u ∈ news, u.oneCell' = true)
    (h63 : n + m ≤ maxLen) (hbytes : (n + m) * bytes ≤ 140737488355328) (hbase : base ≤ w.heap.size) :
    ∃ v' w', (Builtin.append_ #[t, t] ty #[v, .slice A m c]).run P w = .ok v' w' ∧ w'.ownsRow base e size v' (n + m) (xs ++ news) ∧ w.grownBy w' v.ownBlock ∧
      (v'.ownBlock = v.ownBlock ∨ v'.ownBlock = some w.heap.size) := by
  by_cases hm : m = 0
  · subst hm
    have hn : news = [] := List.eq_nil_of_length_eq_zero (by simpa using hl)
    subst hn
    cases A with
    | none => exact ⟨v, w, run_append_nil w base size t ty e i ht hi v n xs hown c, by simpa using hown, World.grownBy.refl w _, .inl rfl⟩
    | some ad =>
      obtain ⟨v', w', hrun, h2, h3, _, h5⟩ := run_append_own_at (P := P) w base t ty e i z size bytes ht hi hz hsize hby hzs hsz v n xs hown ad 0 c [] (by simp) (by simp) h1 h63 hbytes hbase
      exact ⟨v', w', hrun, h2, h3, h5⟩
  · obtain ⟨b, off, rfl, _, _⟩ := hr (by rw [hl]; exact Nat.mul_pos (by omega) hsz)
    obtain ⟨v', w', hrun, h2, h3, _, h5⟩ := run_append_own_at (P := P) w base t ty e i z size bytes ht hi hz hsize hby hzs hsz v n xs hown ⟨b, off, none⟩ m c news hl hr.add_ h1 h63 hbytes hbase
    exact ⟨v', w', hrun, h2, h3, h5⟩

theorem wp_append_rd {o : Oper} {a : Act} {K : Act → World → Prop} {Q : Exit → Act → World → Prop} (s x : Operand) (t : TypeId)
    (ho : o.op = .call { callee := .builtin .append, args := #[s, x], argTypes := #[t, t] })
    (base size : Nat) (e : TypeId) (i : TypeInfo) (z : Value) (bytes : Nat) (ht : P.underlying t = some (.slice e)) (hi : P.info? e = some i) (hz : i.zero = some z)
    (hsize : i.size = size) (hby : i.bytes = bytes) (hzs : z.cells.size = size) (hsz : 0 < size)
    (v : Value) (n : Nat) (xs : List Value) (hs : a.eval s = v) (hown : w.ownsRow base e size v n xs)
    (B : Nat) (A : Option Addr) (m c : Nat) (news : List Value) (hx : a.eval x = .slice A m c) (hl : news.length = m * size) (hr : Rd w B A news) (h1 : ∀ u ∈ news, u.oneCell' = true)
    (h63 : n + m ≤ maxLen) (hbytes : (n + m) * bytes ≤ 140737488355328) (hbase : base ≤ w.heap.size)
    (h : ∀ v' w', w'.ownsRow base e size v' (n + m) (xs ++ news) → w.grownBy w' v.ownBlock → (v'.ownBlock = v.ownBlock ∨ v'.ownBlock = some w.heap.size) → K (a.put o.dst v') w') : o.wp P a w K Q := by
  obtain ⟨v', w', hrun, h2, h3, h4⟩ := run_append_rd (P := P) w base size t o.type e i z bytes ht hi hz hsize hby hzs hsz v n xs hown B A m c news hl hr h1 h63 hbytes hbase
  unfold Oper.wp execOp
  simp only [ho, resolve, invoke, builtin, Sem.run_bind, Sem.run_pure, Result.andThen_ok, List.map_toArray, List.map_cons, List.map_nil, hs, hx, hrun]
  exact h v' w' h2 h3 h4

theorem wpList_append_rd {ops : Array Oper} {rest : List Oper} {o : Oper} {a : Act} {Q : Exit → Act → World → Prop} (hgd : o.guard = none) (s x : Operand) (t : TypeId)
    (ho : o.op = .call { callee := .builtin .append, args := #[s, x], argTypes := #[t, t] })
    (base size : Nat) (e : TypeId) (i : TypeInfo) (z : Value) (bytes : Nat) (ht : P.underlying t = some (.slice e)) (hi : P.info? e = some i) (hz : i.zero = some z)
    (hsize : i.size = size) (hby : i.bytes = bytes) (hzs : z.cells.size = size) (hsz : 0 < size)
    (v : Value) (n : Nat) (xs : List Value) (hs : a.eval s = v) (hown : w.ownsRow base e size v n xs)
    (B : Nat) (A : Option Addr) (m c : Nat) (news : List Value) (hx : a.eval x = .slice A m c) (hl : news.length = m * size) (hr : Rd w B A news) (h1 : ∀ u ∈ news, u.oneCell' = true)
    (h63 : n + m ≤ maxLen) (hbytes : (n + m) * bytes ≤ 140737488355328) (hbase : base ≤ w.heap.size)
    (h : ∀ v' w', w'.ownsRow base e size v' (n + m) (xs ++ news) → w.grownBy w' v.ownBlock → (v'.ownBlock = v.ownBlock ∨ v'.ownBlock = some w.heap.size) → wpList P ops Q rest (a.put o.dst v') w') : wpList P ops Q (o :: rest) a w :=
  wpList_plain hgd fun _ hK => wp_append_rd w s x t ho base size e i z bytes ht hi hz hsize hby hzs hsz v n xs hs hown B A m c news hx hl hr h1 h63 hbytes hbase fun v' w' h2 h3 h4 => hK _ _ (h v' w' h2 h3 h4)
end

end Go.Proofs.YtkgmcabamhpjhaaGreat.AppN

namespace Go.Proofs.YtkgmcabamhpjhaaGreat.App
open Go Go.RowKit Words

section
variable {P : Program} (w : World)

theorem run_append_nil (base : Nat) (t ty e : TypeId) (i : TypeInfo) (ht : P.underlying t = some (.slice e)) (hi : P.info? e = some i)
    (v : Value) (n : Nat) (xs : List Value) (hown : w.ownsRow base e 1 v n xs) (c : Nat) : (Builtin.append_ #[t, t] ty #[v, .slice none 0 c]).run P w = .ok v w := by
  rcases hown.2 with ⟨rfl, rfl⟩ | ⟨g, cap, cur, rfl, _, _, hnc, _⟩
  · simp [Builtin.append_, run_underlying ht, sizeOf, typeInfo, hi, Builtin.lenOf, Builtin.firstCells]
  · simp [Builtin.append_, run_underlying ht, sizeOf, typeInfo, hi, Builtin.lenOf, Builtin.firstCells, hnc, storeCells]

theorem run_append_rd (base : Nat) (t ty e : TypeId) (i : TypeInfo) (z : Value) (bytes : Nat) (ht : P.underlying t = some (.slice e)) (hi : P.info? e = some i) (hz : i.zero = some z)
    (hsize : i.size = 1) (hby : i.bytes = bytes) (hzs : z.cells.size = 1)
    (v : Value) (n : Nat) (xs : List Value) (hown : w.ownsRow base e 1 v n xs)
    (B : Nat) (A : Option Addr) (m c : Nat) (news : List Value) (hl : news.length = m) (hr : Rd w B A news) (h1 : ∀ u ∈ news, u.oneCell' = true)
    (h63 : n + m ≤ maxLen) (hbytes : (n + m) * bytes ≤ 140737488355328) (hbase : base ≤ w.heap.size) :
    ∃ v' w', (Builtin.append_ #[t, t] ty #[v, .slice A m c]).run P w = .ok v' w' ∧ w'.ownsRow base e 1 v' (n + m) (xs ++ news) ∧ w.grownBy w' v.ownBlock ∧
      (v'.ownBlock = v.ownBlock ∨ v'.ownBlock = some w.heap.size) := by
  by_cases hm : m = 0
  · subst hm
    have hn : news = [] := List.eq_nil_of_length_eq_zero hl
    subst hn
    cases A with
    | none => exact ⟨v, w, run_append_nil w base t ty e i ht hi v n xs hown c, by simpa using hown, World.grownBy.refl w _, .inl rfl⟩
    | some ad =>
      obtain ⟨v', w', hrun, h2, h3, _, h5⟩ := run_append_own_at (P := P) w base t ty e i z 1 bytes ht hi hz hsize hby hzs (by omega) v n xs hown ad 0 c [] (by simp) (by simp) h1 h63 hbytes hbase
      exact ⟨v', w', hrun, h2, h3, h5⟩
  · obtain ⟨b, off, rfl, _, _⟩ := hr (by omega)
    obtain ⟨v', w', hrun, h2, h3, _, h5⟩ := run_append_own_at (P := P) w base t ty e i z 1 bytes ht hi hz hsize hby hzs (by omega) v n xs hown ⟨b, off, none⟩ m c news (by omega) hr.add_ h1 h63 hbytes hbase
    exact ⟨v', w', hrun, h2, h3, h5⟩

theorem wp_append_rd {o : Oper} {a : Act} {K : Act → World → Prop} {Q : Exit → Act → World → Prop} (s x : Operand) (t : TypeId)
    (ho : o.op = .call { callee := .builtin .append, args := #[s, x], argTypes := #[t, t] })
    (base : Nat) (e : TypeId) (i : TypeInfo) (z : Value) (bytes : Nat) (ht : P.underlying t = some (.slice e)) (hi : P.info? e = some i) (hz : i.zero = some z)
    (hsize : i.size = 1) (hby : i.bytes = bytes) (hzs : z.cells.size = 1)
    (v : Value) (n : Nat) (xs : List Value) (hs : a.eval s = v) (hown : w.ownsRow base e 1 v n xs)
    (B : Nat) (A : Option Addr) (m c : Nat) (news : List Value) (hx : a.eval x = .slice A m c) (hl : news.length = m) (hr : Rd w B A news) (h1 : ∀ u ∈ news, u.oneCell' = true)
    (h63 : n + m ≤ maxLen) (hbytes : (n + m) * bytes ≤ 140737488355328) (hbase : base ≤ w.heap.size)
    (h : ∀ v' w', w'.ownsRow base e 1 v' (n + m) (xs ++ news) → w.grownBy w' v.ownBlock → (v'.ownBlock = v.ownBlock ∨ v'.ownBlock = some w.heap.size) → K (a.put o.dst v') w') : o.wp P a w K Q := by
  obtain ⟨v', w', hrun, h2, h3, h4⟩ := run_append_rd (P := P) w base t o.type e i z bytes ht hi hz hsize hby hzs v n xs hown B A m c news hl hr h1 h63 hbytes hbase
  unfold Oper.wp execOp
  simp only [ho, resolve, invoke, builtin, Sem.run_bind, Sem.run_pure, Result.andThen_ok, List.map_toArray, List.map_cons, List.map_nil, hs, hx, hrun]
  exact h v' w' h2 h3 h4

theorem wpList_append_rd {ops : Array Oper} {rest : List Oper} {o : Oper} {a : Act} {Q : Exit → Act → World → Prop} (hgd : o.guard = none) (s x : Operand) (t : TypeId)
    (ho : o.op = .call { callee := .builtin .append, args := #[s, x], argTypes := #[t, t] })
    (base : Nat) (e : TypeId) (i : TypeInfo) (z : Value) (bytes : Nat) (ht : P.underlying t = some (.slice e)) (hi : P.info? e = some i) (hz : i.zero = some z)
    (hsize : i.size = 1) (hby : i.bytes = bytes) (hzs : z.cells.size = 1)
    (v : Value) (n : Nat) (xs : List Value) (hs : a.eval s = v) (hown : w.ownsRow base e 1 v n xs)
    (B : Nat) (A : Option Addr) (m c : Nat) (news : List Value) (hx : a.eval x = .slice A m c) (hl : news.length = m) (hr : Rd w B A news) (h1 : ∀ u ∈ news, u.oneCell' = true)
    (h63 : n + m ≤ maxLen) (hbytes : (n + m) * bytes ≤ 140737488355328) (hbase : base ≤ w.heap.size)
    (h : ∀ v' w', w'.ownsRow base e 1 v' (n + m) (xs ++ news) → w.grownBy w' v.ownBlock → (v'.ownBlock = v.ownBlock ∨ v'.ownBlock = some w.heap.size) → wpList P ops Q rest (a.put o.dst v') w') : wpList P ops Q (o :: rest) a w :=
  wpList_plain hgd fun _ hK => wp_append_rd w s x t ho base e i z bytes ht hi hz hsize hby hzs v n xs hs hown B A m c news hx hl hr h1 h63 hbytes hbase fun v' w' h2 h3 h4 => hK _ _ (h v' w' h2 h3 h4)
end

/-- Behind an append onto a row of the call's own, all that was there when the call began is as it was. -/
theorem below_app {w0 w w' : World} {n : Nat} {e : TypeId} {v : Value} {xs : List Value} (h : w.ownsRow w0.heap.size e 1 v n xs) (hb : Below w0.heap.size w0 w) (hg : w.grownBy w' v.ownBlock) : Below w0.heap.size w0 w' :=
  hb.grown hg hb.size fun k hk => (h.lt k hk).1

end Go.Proofs.YtkgmcabamhpjhaaGreat.App

namespace Go.Proofs.YtkgmcabamhpjhaaGreat.UtOwn
open Go Go.RowKit Words

theorem own_slice {w : World} {base n : Nat} {e : TypeId} {v : Value} {xs : List Value} (h : w.ownsRow base e 1 v n xs) : ∃ A c, v = .slice A n c ∧ n ≤ c ∧ c ≤ maxLen ∧ (n = 0 ∨ A ≠ none) := by
  rcases h.2 with ⟨rfl, rfl⟩ | ⟨g, cap, cur, rfl, _, _, h1, h2, _⟩
  · exact ⟨none, 0, rfl, by omega, by unfold maxLen; omega, .inl rfl⟩
  · exact ⟨_, _, rfl, h1, h2, .inr (by simp)⟩
theorem own_lt {w : World} {base n : Nat} {e : TypeId} {v : Value} {xs : List Value} (h : w.ownsRow base e 1 v n xs) : ∀ k, v.ownBlock = some k → base ≤ k := fun k hk => (h.lt k hk).1
theorem below_appw {w0 w w2 : World} {o : Obj} {n : Nat} {e : TypeId} {v : Value} {xs : List Value} (h : w.ownsRow w0.heap.size e 1 v n xs) (hb : Below w0.heap.size w0 w) (hg : (w.alloc o).grownBy w2 v.ownBlock) : Below w0.heap.size w0 w2 :=
  (hb.alloc hb.size o).grown hg (by have := hb.size; simp; omega) (own_lt h)
theorem below_app {w0 w w' : World} {n : Nat} {e : TypeId} {v : Value} {xs : List Value} (h : w.ownsRow w0.heap.size e 1 v n xs) (hb : Below w0.heap.size w0 w) (hg : w.grownBy w' v.ownBlock) : Below w0.heap.size w0 w' :=
  hb.grown hg hb.size fun k hk => (h.lt k hk).1
theorem only_of_below {a w : World} (h : Below a.heap.size a w) (row : Option Nat) : a.grownBy w row := ⟨h.os, h.tape, h.output, h.size, fun i hi _ => h.block i hi⟩
theorem own_keep {w w' : World} {base n : Nat} {e : TypeId} {v : Value} {xs : List Value} (h : w.ownsRow base e 1 v n xs) (hb : Below w.heap.size w w') : w'.ownsRow base e 1 v n xs :=
  h.kept (only_of_below hb none) (by cases v.ownBlock <;> simp)
theorem own_mono {w : World} {base base' n : Nat} {e : TypeId} {v : Value} {xs : List Value} (h : w.ownsRow base e 1 v n xs) (hb : base' ≤ base) : w.ownsRow base' e 1 v n xs :=
  ⟨h.1, h.2.imp id fun ⟨g, cap, cur, e1, hg, r⟩ => ⟨g, cap, cur, e1, Nat.le_trans hb hg, r⟩⟩
/-- Below, over a world between. -/
theorem below_step {w0 w w' : World} (h : Below w0.heap.size w0 w) (h' : Below w.heap.size w w') : Below w0.heap.size w0 w' := h.trans (h'.mono h.size)
end Go.Proofs.YtkgmcabamhpjhaaGreat.UtOwn

namespace Go.Proofs.YtkgmcabamhpjhaaGreat.Post
open Go Go.RowKit Go.WideShapes Go.ChangeShapes
section
variable {H : Type} {enc : TypeId × Value → H} {P : Program}
theorem post_of_below {f : Func} {s : ChangeSpec} {apart fresh handsOn again : Bool} {W W' : World} {args : Array Value} {v : Value} {ds gs : List (DataW H)} {before pa pv : List MemPlace}
    (hW : DataW.Whole enc P f.params.toList s.vars apart W args.toList ds gs before)
    (hres : ∀ (b : Nat) (sp : Nat → Bool) (hd : Bool), DataW.TrodAll enc P W' b sp hd f.resultTypes.toList (v.resultList f.resultTypes.size) (s.fn H (ds ++ gs)).results [])
    (hargs : ∀ sp : Nat → Bool, (∀ p ∈ before, sp p.block = true) → DataW.TrodAll enc P W' 0 sp true f.params.toList args.toList (s.fn H (ds ++ gs)).args pa)
    (hvars : ∀ sp : Nat → Bool, (∀ p ∈ before, sp p.block = true) → DataW.TrodVars enc P W' sp s.vars (s.fn H (ds ++ gs)).vars pv)
    (hps : before = pa ++ pv) (hb : Below W.heap.size W W')
    (hok : ∀ (j : Nat) (t : TypeId) (r : Value), f.resultTypes[j]? = some t → (v.resultList f.resultTypes.size)[j]? = some r → Value.okWide P W' .any 0 t r) :
    s.post enc P f apart fresh handsOn again W args v W' := by
  have hlt : ∀ p ∈ before, p.block < W.heap.size := fun p hp => hW.lt p hp
  have hold : ∀ p ∈ before, (fun b => decide (b < W.heap.size)) p.block = true := fun p hp => by simpa using hlt p hp
  refine ⟨ds, gs, before, [], pa, pv, hW, hres _ _ _, hargs _ hold, hvars _ hold, World.keptBut_mono (fun p hp => ⟨hp, ?_⟩) (hb.frame (· ∈ before)), fun _ => ?_⟩
  · rw [hps, List.mem_append] at hp
    exact Or.inr hp
  · obtain ⟨_, _, _, _, _, hz, hn⟩ := hW
    refine ⟨hok, _, _, ([] ++ pa) ++ pv, ⟨[] ++ pa, pv, trodAll_append (hargs _ (fun _ _ => rfl)) (hres _ _ _), hvars _ (fun _ _ => rfl), rfl, ?_, ?_⟩, ?_⟩
    · intro b off hp
      have hin : MemPlace.cell b off ∈ before := by rw [hps]; simpa using hp
      rw [hb.frozen (hlt _ hin)]
      exact hz b off hin
    · intro ha
      have := hn ha
      rw [hps] at this
      simpa using this
    · intro p hp _
      rw [hps]
      simpa using hp
end
end Go.Proofs.YtkgmcabamhpjhaaGreat.Post

namespace Go.Proofs.YtkgmcabamhpjhaaGreat.Ope
open Go Go.RowKit Go.WideShapes Go.ChangeShapes Words Post

section
variable {H : Type} {enc : TypeId × Value → H} {P : Program}

/-- All arguments read behind the call as before it. -/
theorem trodAll_stays (hl : laidOutB P = true) {W W' : World} {sp : Nat → Bool} : ∀ {ts : List TypeId} {vs : List Value} {ds : List (DataW H)} {ps : List MemPlace},
    (∀ t ∈ ts, P.readableRec t = true ∧ t < P.types.size) → DataW.TrodAll enc P W 0 (fun _ => true) true ts vs ds ps → (∀ x ∈ ps, W.sameAt W' x) → (∀ x ∈ ps, sp x.block = true) → DataW.TrodAll enc P W' 0 sp true ts vs ds ps
  | [], [], [], _, _, h, _, _ => h
  | t :: ts, v :: vs, d :: ds, _, ht, ⟨p, q, h1, h2, e⟩, hsame, hsp => by
    subst e
    exact ⟨p, q, WideElems.Trod_stays hl (ht t (by simp)).1 (ht t (by simp)).2 h1 (fun x hx => hsame x (by simp [hx])) (fun x hx => hsp x (by simp [hx])),
      trodAll_stays hl (fun t ht' => ht t (by simp [ht'])) h2 (fun x hx => hsame x (by simp [hx])) (fun x hx => hsp x (by simp [hx])), rfl⟩

/-- The row of a statement: true, and the arguments as they were. -/
theorem law_post {f : Func} {s : ChangeSpec} {tb : TypeId} {W W' : World} {args : Array Value} {ds : List (DataW H)} {before : List MemPlace} (hl : laidOutB P = true)
    (hts : ∀ t ∈ f.params.toList, P.readableRec t = true ∧ t < P.types.size) (hvars : s.vars = []) (hrt : f.resultTypes = #[tb]) (htb : P.underlying tb = some .bool)
    (hfn : s.fn H (ds ++ []) = { results := [.lit (.bool true)], args := ds })
    (hW : DataW.Whole enc P f.params.toList s.vars false W args.toList ds [] before) (hb : Below W.heap.size W W') :
    s.post enc P f false true false false W args (.bool true) W' := by
  obtain ⟨p, q, hA, hV, rfl, hfz, hnd⟩ := id hW
  rw [hvars] at hV
  obtain ⟨_, rfl⟩ := trodVars_none hV
  rw [List.append_nil] at hW
  have hlt : ∀ x ∈ p, x.block < W.heap.size := fun x hx => hW.lt x hx
  refine post_of_below (gs := []) (pa := p) (pv := []) hW ?_ ?_ ?_ (by simp) hb (ok_one hrt rfl (okWide_bool_mk htb _))
  · intro b sp hd
    rw [hfn, hrt]
    exact trodAll_cons_mk (shut_bool htb _) trodAll_mk0
  · intro sp hsp
    rw [hfn]
    exact trodAll_stays hl hts hA (fun x hx => hb.same (hlt x hx)) hsp
  · intro sp hsp
    rw [hfn, hvars]
    rfl

theorem u8_of_wf {x : Int} (h : (Lit.int .u8 x).wf = true) : (((UInt8.ofNat x.toNat).toNat : Nat) : Int) = x := by
  have := bounds_u8 h
  simp; omega
theorem u64_of_wf {x : Int} (h : (Lit.int .u64 x).wf = true) : (((UInt64.ofNat x.toNat).toNat : Nat) : Int) = x := by
  have := bounds_u64 h
  simp; omega
theorem u64_of {x : Int} (h : (Lit.int .u64 x).wf = true) : ∃ n : UInt64, x = (n.toNat : Int) := ⟨_, (u64_of_wf h).symm⟩

/-- What a slice of integers reads as, for the bound on the arguments' bulk. -/
def Lits (k : IntKind) (d : DataW H) (zs : List Int) : Prop := (d = .nil ∧ zs = []) ∨ ∃ sp, d = .slice (lits k zs) sp

theorem open_slice_ints {t e : TypeId} {k : IntKind} (ht : P.underlying t = some (.slice e)) (he : P.underlying e = some (.int k)) (hc : P.cellsOf e = 1) {W : World} {base : Nat} {v : Value} {d : DataW H} {p : List MemPlace}
    (hval : Value.okWide P W .any base t v) (h : DataW.Trod enc P W 0 (fun _ => true) true t v d p) (hlt : ∀ x ∈ p, x.block < W.heap.size) :
    ∃ (A : Option Addr) (zs : List Int) (c : Nat), v = .slice A zs.length c ∧ zs.length ≤ c ∧ c ≤ maxLen ∧ Rd W W.heap.size A (zs.map (Value.int k)) ∧ (∀ x ∈ zs, (Lit.int k x).wf = true) ∧ Lits k d zs := by
  obtain ⟨A, len, cap, rfl⟩ := okWide_slice ht hval
  obtain ⟨fuel, hf⟩ := h
  rcases open_ints ht he hc hf with ⟨hcs, hx⟩ | ⟨a, len', cap', zs, hcs, _, hl, hm, hz, hx, hcell, hwz⟩
  · simp [Value.cells] at hcs
    obtain ⟨rfl, rfl, rfl⟩ := hcs
    simp only [Prod.mk.injEq] at hx
    obtain ⟨rfl, rfl⟩ := hx
    exact ⟨none, [], 0, rfl, by simp, by unfold maxLen; omega, Rd.nil_, (fun _ h => by cases h), .inl ⟨rfl, rfl⟩⟩
  · simp [Value.cells] at hcs
    obtain ⟨rfl, rfl, rfl⟩ := hcs
    simp only [Prod.mk.injEq] at hx
    obtain ⟨rfl, rfl⟩ := hx
    simp only [if_true] at hz
    have hlen : (zs.take len).length = len := by simp; omega
    refine ⟨some a, zs.take len, cap, by rw [hlen], by omega, hm, ?_, fun x hx' => hwz x (List.mem_of_mem_take hx'), .inr ⟨_, rfl⟩⟩
    intro hn
    rw [List.length_map, hlen] at hn
    obtain ⟨b, off, rfl, hc'⟩ := ints_at hcell (by omega)
    refine ⟨b, off, rfl, ?_, fun j u hu => ?_⟩
    · have := World.block_lt_of_cell? W _ (hc' 0 (by omega))
      exact this
    · rw [List.getElem?_map, List.getElem?_take] at hu
      split at hu
      · have hj : j < zs.length := by omega
        rw [hc' j hj]
        simp [List.getElem?_eq_getElem hj] at hu
        subst hu
        simp [List.getD, hj]
      · simp at hu

theorem open_u8s {t e : TypeId} (ht : P.underlying t = some (.slice e)) (he : P.underlying e = some (.int .u8)) (hc : P.cellsOf e = 1) {W : World} {base : Nat} {v : Value} {d : DataW H} {p : List MemPlace}
    (hval : Value.okWide P W .any base t v) (h : DataW.Trod enc P W 0 (fun _ => true) true t v d p) (hlt : ∀ x ∈ p, x.block < W.heap.size) :
    ∃ (A : Option Addr) (l : List UInt8) (c : Nat), v = .slice A l.length c ∧ l.length ≤ c ∧ c ≤ maxLen ∧ Rd W W.heap.size A (l.map B8) ∧ Lits .u8 d (l.map fun x => (x.toNat : Int)) := by
  obtain ⟨A, zs, c, rfl, h1, h2, h3, h4, h5⟩ := open_slice_ints ht he hc hval h hlt
  have e1 : (zs.map fun x => UInt8.ofNat x.toNat).map (fun x => (x.toNat : Int)) = zs := by
    rw [List.map_map]
    conv => rhs; rw [← List.map_id zs]
    exact List.map_congr_left fun x hx => u8_of_wf (h4 x hx)
  have e2 : (zs.map fun x => UInt8.ofNat x.toNat).map B8 = zs.map (Value.int .u8) := by
    rw [List.map_map]
    exact List.map_congr_left fun x hx => by show Value.int .u8 _ = _; rw [u8_of_wf (h4 x hx)]
  exact ⟨A, zs.map fun x => UInt8.ofNat x.toNat, c, by simp, by simpa using h1, h2, by rw [e2]; exact h3, by rw [e1]; exact h5⟩

theorem open_u64s {t e : TypeId} (ht : P.underlying t = some (.slice e)) (he : P.underlying e = some (.int .u64)) (hc : P.cellsOf e = 1) {W : World} {base : Nat} {v : Value} {d : DataW H} {p : List MemPlace}
    (hval : Value.okWide P W .any base t v) (h : DataW.Trod enc P W 0 (fun _ => true) true t v d p) (hlt : ∀ x ∈ p, x.block < W.heap.size) :
    ∃ (A : Option Addr) (l : List UInt64) (c : Nat), v = .slice A l.length c ∧ l.length ≤ c ∧ c ≤ maxLen ∧ Rd W W.heap.size A (l.map B64) ∧ Lits .u64 d (l.map fun x => (x.toNat : Int)) := by
  obtain ⟨A, zs, c, rfl, h1, h2, h3, h4, h5⟩ := open_slice_ints ht he hc hval h hlt
  have e1 : (zs.map fun x => UInt64.ofNat x.toNat).map (fun x => (x.toNat : Int)) = zs := by
    rw [List.map_map]
    conv => rhs; rw [← List.map_id zs]
    exact List.map_congr_left fun x hx => u64_of_wf (h4 x hx)
  have e2 : (zs.map fun x => UInt64.ofNat x.toNat).map B64 = zs.map (Value.int .u64) := by
    rw [List.map_map]
    exact List.map_congr_left fun x hx => by show Value.int .u64 _ = _; rw [u64_of_wf (h4 x hx)]
  exact ⟨A, zs.map fun x => UInt64.ofNat x.toNat, c, by simp, by simpa using h1, h2, by rw [e2]; exact h3, by rw [e1]; exact h5⟩
end

end Go.Proofs.YtkgmcabamhpjhaaGreat.Ope

