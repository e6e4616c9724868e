/- Words for memory, of no program: 'Rd': a slice's cells read as a list of values (nil let in); a slice of bytes as a list of bytes. No conditions. · Whose a block is, by numbers; what changes while only blocks of some numbers change ('Mv'). Of no program. No conditions. · Whose a block is, by numbers, where what changes may also change hands ('Mo'). Of no program. No conditions. · 'append(out, xs...)' onto a row of the call's own, the source nil, empty or not (told by 'Rd'); elements of any number of cells. Of no program. Condition: the new length times the element's bytes is at most 2^47. -/
import Derived.Below
import Derived.Laws.OwnMore
import Derived.Deep.AppendLies
import Derived.Deep.Draws
import Derived.WalkKit
import Derived.Laws.BytesString
import Derived.Lib.SlBytesRow
import Derived.Laws.Rows
import Derived.Maps.AppendAt
import Derived.RegionTactic
import Derived.OwnWalk
namespace Go.Proofs.Ytdmbgjpidlllcaa.Words
open Go Go.RowKit

def B8 (c : UInt8) : Value := .int .u8 (c.toNat : Int)
def B64 (c : UInt64) : Value := .int .u64 (c.toNat : Int)

/-- The slice at A (nil let in) reads as vs; its block lies below B. -/
def Rd (w : World) (B : Nat) (A : Option Addr) (vs : List Value) : Prop :=
  0 < vs.length → ∃ b off, A = some ⟨b, off, none⟩ ∧ b < B ∧ ∀ j u, vs[j]? = some u → w.cell? ⟨b, off + j, none⟩ = some u

theorem add_off (b off j : Nat) : (⟨b, off, none⟩ : Addr).add j = ⟨b, off + j, none⟩ := by unfold Addr.add; split <;> simp_all

section
variable {w w' : World} {B B' : Nat} {A : Option Addr} {vs : List Value}
theorem Rd.keep (h : Rd w B A vs) (hk : ∀ p : Addr, p.block < B → w'.cell? p = w.cell? p) : Rd w' B A vs := fun hn => by
  obtain ⟨b, off, e, hb, hc⟩ := h hn
  exact ⟨b, off, e, hb, fun j u hu => (hk _ hb).trans (hc j u hu)⟩
theorem Rd.more (h : Rd w B A vs) (hB : B ≤ B') : Rd w B' A vs := fun hn => by
  obtain ⟨b, off, e, hb, hc⟩ := h hn
  exact ⟨b, off, e, by omega, hc⟩
theorem Rd.below (h : Rd w B A vs) (hb : Below B w w') : Rd w' B A vs := h.keep fun _ hp => hb.cell hp
theorem Rd.drew (h : Rd w B A vs) : Rd w.drew B A vs := h
theorem Rd.drewN (h : Rd w B A vs) (k : Nat) : Rd (w.drewN k) B A vs := h
theorem Rd.alloc (h : Rd w B A vs) (hB : B ≤ w.heap.size) (o : Obj) : Rd (w.alloc o) B A vs := h.keep fun p hp => World.cell?_alloc_lt w o p (by omega)
theorem Rd.setCell (h : Rd w B A vs) {p : Addr} (hB : B ≤ p.block) (u : Value) : Rd (w.setCell p u) B A vs :=
  h.keep fun q hq => World.cell?_setCell_other w p q u (fun e => by subst e; omega)
theorem Rd.grown (h : Rd w B A vs) {row : Option Nat} (hg : w.grownBy w' row) (hB : B ≤ w.heap.size) (hr : ∀ g, row = some g → B ≤ g) : Rd w' B A vs :=
  h.keep fun p hp => World.cell?_of_block (hg.block p.block (by omega) (fun e => by have := hr _ e.symm; omega))
theorem Rd.grownBy (h : Rd w B A vs) {row : Option Nat} (hg : w.grownBy w' row) (hB : B ≤ w.heap.size) (hr : ∀ b off, A = some ⟨b, off, none⟩ → some b ≠ row) : Rd w' B A vs := fun hn => by
  obtain ⟨b, off, e, hb, hc⟩ := h hn
  exact ⟨b, off, e, hb, fun j u hu => (World.cell?_of_block (hg.block b (by omega) (hr b off e))).trans (hc j u hu)⟩
theorem Rd.nil_ : Rd w B A [] := fun h => absurd h (by simp)
/-- A later part: 's[k:]'; the model keeps the old address where k is the capacity. -/
theorem Rd.cut (h : Rd w B A vs) {k cap : Nat} (hc : vs.length ≤ cap) :
    Rd w B (if cap = k then A else A.map (·.add k)) (vs.drop k) := fun hn => by
  rw [List.length_drop] at hn
  obtain ⟨b, off, rfl, hb, hcell⟩ := h (by omega)
  rw [if_neg (by omega)]
  refine ⟨b, off + k, by simp [add_off], hb, fun j u hu => ?_⟩
  rw [List.getElem?_drop] at hu
  rw [Nat.add_assoc]
  exact hcell _ u hu
/-- A beginning: 's[:k]'. -/
theorem Rd.take (h : Rd w B A vs) (k : Nat) : Rd w B A (vs.take k) := fun hn => by
  rw [List.length_take] at hn
  obtain ⟨b, off, rfl, hb, hcell⟩ := h (by omega)
  exact ⟨b, off, rfl, hb, fun j u hu => hcell j u (by rw [List.getElem?_take] at hu; split at hu <;> simp_all)⟩
theorem Rd.of_own {base n c : Nat} {e : TypeId} (h : w.ownsRow base e 1 (.slice A n c) n vs) : Rd w w.heap.size A vs := fun hn => by
  have hl := h.1
  obtain ⟨g, cap, hv, _, hlt⟩ := h.form (by omega)
  have hA : A = some ⟨g, 0, none⟩ := by injection hv
  subst hA
  refine ⟨g, 0, rfl, hlt, fun j u hu => ?_⟩
  have := h.cells (g := g) rfl j u hu
  rwa [add_off] at this
/-- A block that was made of these cells. -/
theorem Rd.made (w : World) (cs : Array Value) (e : TypeId) : Rd (w.alloc (.cells cs e)) (w.heap.size + 1) (some ⟨w.heap.size, 0, none⟩) cs.toList := fun _ =>
  ⟨w.heap.size, 0, rfl, by omega, fun j u hu => by
    rw [World.cell?_alloc_at _ _ _ _ rfl]
    simpa using hu⟩
theorem Rd.made' (w : World) (cs : Array Value) (e : TypeId) : Rd (w.alloc (.cells cs e)) (w.alloc (.cells cs e)).heap.size (some ⟨w.heap.size, 0, none⟩) cs.toList := (Rd.made w cs e).more (by simp)
theorem Rd.add_ {b off : Nat} (h : Rd w B (some ⟨b, off, none⟩) vs) : ∀ j u, vs[j]? = some u → w.cell? ((⟨b, off, none⟩ : Addr).add j) = some u := fun j u hu => by
  obtain ⟨b', off', e, _, hc⟩ := h (by have := (List.getElem?_eq_some_iff.1 hu).1; omega)
  injection e with e; injection e with e1 e2 _
  subst e1 e2
  rw [add_off]
  exact hc j u hu
end

theorem cell8 {w : World} {b off : Nat} {l : List UInt8} (hc : ∀ j u, (l.map B8)[j]? = some u → w.cell? ⟨b, off + j, none⟩ = some u) {k : Nat} (hk : k < l.length) :
    w.cell? ⟨b, off + k, none⟩ = some (.int .u8 ((l[k].toNat : Nat) : Int)) := hc k _ (by simp [hk, B8])
theorem cell64 {w : World} {b off : Nat} {l : List UInt64} (hc : ∀ j u, (l.map B64)[j]? = some u → w.cell? ⟨b, off + j, none⟩ = some u) {k : Nat} (hk : k < l.length) :
    w.cell? ⟨b, off + k, none⟩ = some (.int .u64 ((l[k].toNat : Nat) : Int)) := hc k _ (by simp [hk, B64])

theorem one8 (l : List UInt8) : ∀ u ∈ l.map B8, u.oneCell' = true := by
  intro u hu
  obtain ⟨c, _, rfl⟩ := List.mem_map.1 hu
  rfl

/-- 'string(b)'. -/
theorem run_bytes {P : Program} (w : World) (src dst e : TypeId) (hs : P.underlying src = some (.slice e)) (he : P.underlying e = some (.int .u8)) (hd : P.underlying dst = some .string)
    (A : Option Addr) (l : List UInt8) (c B : Nat) (hr : Rd w B A (l.map B8)) : (convert src dst (.slice A l.length c)).run P w = .ok (.string ⟨l.toArray⟩) w := by
  by_cases h0 : l = []
  · subst h0
    rw [run_convert_bytes_string w src dst e A _ c hs he hd]
    unfold Conv.bytesToString
    cases A with
    | none => simp [Sem.run_pure]; rfl
    | some a => simp [Sem.run_pure, loadCells, loadCellsFrom]; rfl
  · obtain ⟨b, off, rfl, _, hc⟩ := hr (by simp; exact List.length_pos_iff.2 h0)
    have hsz : (ByteArray.mk l.toArray).size = l.length := by show l.toArray.size = _; simp
    have := Lib.run_convert_whole (P := P) w src e dst hs he hd b off ⟨l.toArray⟩ (fun i hi => by
      have hi' : i < l.length := by rw [hsz] at hi; exact hi
      rw [cell8 hc hi']
      rfl) c
    rwa [hsz] at this

end Go.Proofs.Ytdmbgjpidlllcaa.Words

namespace Go.Proofs.Ytdmbgjpidlllcaa.Km
open Go Go.RowKit Words

/-- Something new, of a kind of its own. -/
def kmark (K : Nat → Nat) (n m : Nat) : Nat → Nat := fun b => if b < n then K b else m
theorem kmark_new {K : Nat → Nat} {n m b : Nat} (h : n ≤ b) : kmark K n m b = m := if_neg (by omega)
theorem kmark_old {K : Nat → Nat} {n m b : Nat} (h : b < n) : kmark K n m b = K b := if_pos h

/-- Only blocks whose number is in S have changed, and new ones have come. -/
structure Mv (K K' : Nat → Nat) (S : Nat → Prop) (w w' : World) : Prop where
  os : w'.os = w.os
  tape : w'.tape = w.tape
  output : w'.output = w.output
  size : w.heap.size ≤ w'.heap.size
  block : ∀ i, i < w.heap.size → ¬ S (K i) → w'.heap[i]? = w.heap[i]?
  kind : ∀ i, i < w.heap.size → K' i = K i
section
variable {K K' K'' : Nat → Nat} {S S' : Nat → Prop} {w w' w'' : World}
theorem Mv.refl (K : Nat → Nat) (S : Nat → Prop) (w : World) : Mv K K S w w := ⟨rfl, rfl, rfl, Nat.le_refl _, fun _ _ _ => rfl, fun _ _ => rfl⟩
theorem Mv.trans (h : Mv K K' S w w') (h' : Mv K' K'' S w' w'') : Mv K K'' S w w'' :=
  ⟨h'.os.trans h.os, h'.tape.trans h.tape, h'.output.trans h.output, Nat.le_trans h.size h'.size,
    fun i hi hk => (h'.block i (by have := h.size; omega) (by rw [h.kind i hi]; exact hk)).trans (h.block i hi hk),
    fun i hi => (h'.kind i (by have := h.size; omega)).trans (h.kind i hi)⟩
theorem Mv.widen (h : Mv K K' S w w') (hS : ∀ o, S o → S' o) : Mv K K' S' w w' := ⟨h.os, h.tape, h.output, h.size, fun i hi hk => h.block i hi (fun e => hk (hS _ e)), h.kind⟩
theorem Mv.new (hb : Below w.heap.size w w') (m : Nat) : Mv K (kmark K w.heap.size m) S w w' := ⟨hb.os, hb.tape, hb.output, hb.size, fun i hi _ => hb.block i hi, fun _i hi => if_pos hi⟩
theorem Mv.same (hb : Below w.heap.size w w') : Mv K K S w w' := ⟨hb.os, hb.tape, hb.output, hb.size, fun i hi _ => hb.block i hi, fun _ _ => rfl⟩
theorem Mv.below (h : Mv K K' S w w') (hS : ∀ i, i < w.heap.size → ¬ S (K i)) : Below w.heap.size w w' := ⟨h.os, h.tape, h.output, h.size, fun i hi => h.block i hi (hS i hi)⟩
/-- A store into a block of S. -/
theorem Mv.poke {a : Addr} (u : Value) (h : S (K a.block)) : Mv K K S w (w.setCell a u) := ⟨rfl, rfl, rfl, by simp, fun i hi hk => heap_setCell_other w a i u (fun e => hk (by rw [e]; exact h)), fun _ _ => rfl⟩
theorem rd_mv {A : Option Addr} {vs : List Value} {m : Nat} (h : Mv K K' S w w') (hm : ¬ S m) (hr : Rd w w.heap.size A vs) (hk : ∀ b off, A = some ⟨b, off, none⟩ → 0 < vs.length → K b = m) : Rd w' w'.heap.size A vs ∧ ∀ b off, A = some ⟨b, off, none⟩ → 0 < vs.length → K' b = m := by
  refine ⟨fun hn => ?_, fun b off e hn => ?_⟩
  · obtain ⟨b, off, e, hb, hc⟩ := hr hn
    refine ⟨b, off, e, Nat.lt_of_lt_of_le hb h.size, fun j u hu => ?_⟩
    rw [World.cell?_of_block (a := ⟨b, off + j, none⟩) (h.block b hb (by rw [hk b off e hn]; exact hm))]
    exact hc j u hu
  · obtain ⟨b', off', e', hb', _⟩ := hr hn
    rw [e] at e'
    injection e' with e'
    injection e' with e'
    subst e'
    exact (h.kind b hb').trans (hk b off e hn)
/-- A row of one's own, of number m, stays. -/
theorem own_mv {base n size m : Nat} {e : TypeId} {v : Value} {xs : List Value} (h : w.ownsRow base e size v n xs) (hk : ∀ q, v.ownBlock = some q → K q = m) (ht : Mv K K' S w w') (hm : ¬ S m) : w'.ownsRow base e size v n xs ∧ ∀ q, v.ownBlock = some q → K' q = m := by
  obtain ⟨h1, h2⟩ := h
  rcases h2 with ⟨rfl, h2⟩ | ⟨g, cap, cur, rfl, h3, h4, h5⟩
  · exact ⟨⟨h1, .inl ⟨rfl, h2⟩⟩, fun q e => by cases e⟩
  · have hg := (Array.getElem?_eq_some_iff.1 h4).1
    have hk1 := hk g rfl
    refine ⟨⟨h1, .inr ⟨g, cap, cur, rfl, h3, (ht.block g hg (by rw [hk1]; exact hm)).trans h4, h5⟩⟩, fun q e => ?_⟩
    injection e with e
    subst e
    exact (ht.kind g hg).trans hk1
end

end Go.Proofs.Ytdmbgjpidlllcaa.Km

namespace Go.Proofs.Ytdmbgjpidlllcaa.Mo_
open Go Go.RowKit Words Km

/-- Only blocks whose number is in S have changed, in what they hold or in their number; new ones have come. -/
structure Mo (K K' : Nat → Nat) (S : Nat → Prop) (w w' : World) : Prop where
  os : w'.os = w.os
  tape : w'.tape = w.tape
  output : w'.output = w.output
  size : w.heap.size ≤ w'.heap.size
  keep : ∀ i, i < w.heap.size → ¬ S (K i) → w'.heap[i]? = w.heap[i]? ∧ K' i = K i
section
variable {K K' K'' : Nat → Nat} {S S' : Nat → Prop} {w w' w'' : World}
theorem Mo.refl (K : Nat → Nat) (S : Nat → Prop) (w : World) : Mo K K S w w := ⟨rfl, rfl, rfl, Nat.le_refl _, fun _ _ _ => ⟨rfl, rfl⟩⟩
theorem Mo.trans (h : Mo K K' S w w') (h' : Mo K' K'' S w' w'') : Mo K K'' S w w'' :=
  ⟨h'.os.trans h.os, h'.tape.trans h.tape, h'.output.trans h.output, Nat.le_trans h.size h'.size, fun i hi hk => by
    obtain ⟨a, b⟩ := h.keep i hi hk
    obtain ⟨c, d⟩ := h'.keep i (Nat.lt_of_lt_of_le hi h.size) (by rw [b]; exact hk)
    exact ⟨c.trans a, d.trans b⟩⟩
theorem Mo.widen (h : Mo K K' S w w') (hS : ∀ o, S o → S' o) : Mo K K' S' w w' := ⟨h.os, h.tape, h.output, h.size, fun i hi hk => h.keep i hi (fun e => hk (hS _ e))⟩
theorem Mo.new (hb : Below w.heap.size w w') (m : Nat) : Mo K (kmark K w.heap.size m) S w w' := ⟨hb.os, hb.tape, hb.output, hb.size, fun i hi _ => ⟨hb.block i hi, if_pos hi⟩⟩
theorem Mo.same (hb : Below w.heap.size w w') : Mo K K S w w' := ⟨hb.os, hb.tape, hb.output, hb.size, fun i hi _ => ⟨hb.block i hi, rfl⟩⟩
theorem Mo.of_mv (h : Mv K K' S w w') : Mo K K' S w w' := ⟨h.os, h.tape, h.output, h.size, fun i hi hk => ⟨h.block i hi hk, h.kind i hi⟩⟩
theorem Mo.below (h : Mo K K' S w w') {B : Nat} (hB : B ≤ w.heap.size) (hS : ∀ i, i < B → ¬ S (K i)) : Below B w w' := ⟨h.os, h.tape, h.output, h.size, fun i hi => (h.keep i (by omega) (hS i hi)).1⟩
theorem Mo.poke {a : Addr} (u : Value) (h : S (K a.block)) : Mo K K S w (w.setCell a u) := Mo.of_mv (Mv.poke u h)
theorem Mo.call (h : Mo K K' S w w') (hb : Below w'.heap.size w' w'') : Mo K K' S w w'' := h.trans (Mo.same hb)
theorem Mo.drew (h : Mo K K' S w w') (k : Nat) : Mo K K' S w (w'.drewN k) := ⟨h.os, h.tape, h.output, h.size, h.keep⟩
theorem rd_mo {A : Option Addr} {vs : List Value} (h : Mo K K' S w w') (hr : Rd w w.heap.size A vs) (hk : ∀ b off, A = some ⟨b, off, none⟩ → 0 < vs.length → ¬ S (K b)) : Rd w' w'.heap.size A vs ∧ ∀ b off, A = some ⟨b, off, none⟩ → 0 < vs.length → K' b = K b := by
  refine ⟨fun hn => ?_, fun b off e hn => ?_⟩
  · obtain ⟨b, off, e, hb, hc⟩ := hr hn
    refine ⟨b, off, e, Nat.lt_of_lt_of_le hb h.size, fun j u hu => ?_⟩
    rw [World.cell?_of_block (a := ⟨b, off + j, none⟩) (h.keep b hb (hk b off e hn)).1]
    exact hc j u hu
  · obtain ⟨b', off', e', hb', _⟩ := hr hn
    rw [e] at e'
    injection e' with e'
    injection e' with e'
    subst e'
    exact (h.keep b hb' (hk b off e hn)).2
theorem own_mo {base n size m : Nat} {e : TypeId} {v : Value} {xs : List Value} (h : w.ownsRow base e size v n xs) (hk : ∀ q, v.ownBlock = some q → K q = m) (ht : Mo K K' S w w') (hm : ¬ S m) : w'.ownsRow base e size v n xs ∧ ∀ q, v.ownBlock = some q → K' q = m := by
  obtain ⟨h1, h2⟩ := h
  rcases h2 with ⟨rfl, h2⟩ | ⟨g, cap, cur, rfl, h3, h4, h5⟩
  · exact ⟨⟨h1, .inl ⟨rfl, h2⟩⟩, fun q e => by cases e⟩
  · have hg := (Array.getElem?_eq_some_iff.1 h4).1
    have hk1 := hk g rfl
    have hkeep := ht.keep g hg (by rw [hk1]; exact hm)
    refine ⟨⟨h1, .inr ⟨g, cap, cur, rfl, h3, hkeep.1.trans h4, h5⟩⟩, fun q e => ?_⟩
    injection e with e
    subst e
    exact hkeep.2.trans hk1
end

end Go.Proofs.Ytdmbgjpidlllcaa.Mo_

namespace Go.Proofs.Ytdmbgjpidlllcaa.AppN
open Go Go.RowKit Words

section
variable {P : Program} (w : World)

theorem run_append_nil (base size : Nat) (t ty e : TypeId) (i : TypeInfo) (ht : P.underlying t = some (.slice e)) (hi : P.info? e = some i)
    (v : Value) (n : Nat) (xs : List Value) (hown : w.ownsRow base e size v n xs) (c : Nat) : (Builtin.append_ #[t, t] ty #[v, .slice none 0 c]).run P w = .ok v w := by
  rcases hown.2 with ⟨rfl, rfl⟩ | ⟨g, cap, cur, rfl, _, _, hnc, _⟩
  · simp [Builtin.append_, run_underlying ht, sizeOf, typeInfo, hi, Builtin.lenOf, Builtin.firstCells]
  · simp [Builtin.append_, run_underlying ht, sizeOf, typeInfo, hi, Builtin.lenOf, Builtin.firstCells, hnc, storeCells]

theorem run_append_rd (base size : Nat) (t ty e : TypeId) (i : TypeInfo) (z : Value) (bytes : Nat) (ht : P.underlying t = some (.slice e)) (hi : P.info? e = some i) (hz : i.zero = some z)
    (hsize : i.size = size) (hby : i.bytes = bytes) (hzs : z.cells.size = size) (hsz : 0 < size)
    (v : Value) (n : Nat) (xs : List Value) (hown : w.ownsRow base e size v n xs)
    (B : Nat) (A : Option Addr) (m c : Nat) (news : List Value) (hl : news.length = m * size) (hr : Rd w B A news) (h1 : ∀ u ∈ news, u.oneCell' = true)
    (h63 : n + m ≤ maxLen) (hbytes : (n + m) * bytes ≤ 140737488355328) (hbase : base ≤ w.heap.size) :
    ∃ v' w', (Builtin.append_ #[t, t] ty #[v, .slice A m c]).run P w = .ok v' w' ∧ w'.ownsRow base e size v' (n + m) (xs ++ news) ∧ w.grownBy w' v.ownBlock ∧
      (v'.ownBlock = v.ownBlock ∨ v'.ownBlock = some w.heap.size) := by
  by_cases hm : m = 0
  · subst hm
    have hn : news = [] := List.eq_nil_of_length_eq_zero (by simpa using hl)
    subst hn
    cases A with
    | none => exact ⟨v, w, run_append_nil w base size t ty e i ht hi v n xs hown c, by simpa using hown, World.grownBy.refl w _, .inl rfl⟩
    | some ad =>
      obtain ⟨v', w', hrun, h2, h3, _, h5⟩ := run_append_own_at (P := P) w base t ty e i z size bytes ht hi hz hsize hby hzs hsz v n xs hown ad 0 c [] (by simp) (by simp) h1 h63 hbytes hbase
      exact ⟨v', w', hrun, h2, h3, h5⟩
  · obtain ⟨b, off, rfl, _, _⟩ := hr (by rw [hl]; exact Nat.mul_pos (by omega) hsz)
    obtain ⟨v', w', hrun, h2, h3, _, h5⟩ := run_append_own_at (P := P) w base t ty e i z size bytes ht hi hz hsize hby hzs hsz v n xs hown ⟨b, off, none⟩ m c news hl hr.add_ h1 h63 hbytes hbase
    exact ⟨v', w', hrun, h2, h3, h5⟩

theorem wp_append_rd {o : Oper} {a : Act} {K : Act → World → Prop} {Q : Exit → Act → World → Prop} (s x : Operand) (t : TypeId)
    (ho : o.op = .call { callee := .builtin .append, args := #[s, x], argTypes := #[t, t] })
    (base size : Nat) (e : TypeId) (i : TypeInfo) (z : Value) (bytes : Nat) (ht : P.underlying t = some (.slice e)) (hi : P.info? e = some i) (hz : i.zero = some z)
    (hsize : i.size = size) (hby : i.bytes = bytes) (hzs : z.cells.size = size) (hsz : 0 < size)
    (v : Value) (n : Nat) (xs : List Value) (hs : a.eval s = v) (hown : w.ownsRow base e size v n xs)
    (B : Nat) (A : Option Addr) (m c : Nat) (news : List Value) (hx : a.eval x = .slice A m c) (hl : news.length = m * size) (hr : Rd w B A news) (h1 : ∀ u ∈ news, u.oneCell' = true)
    (h63 : n + m ≤ maxLen) (hbytes : (n + m) * bytes ≤ 140737488355328) (hbase : base ≤ w.heap.size)
    (h : ∀ v' w', w'.ownsRow base e size v' (n + m) (xs ++ news) → w.grownBy w' v.ownBlock → (v'.ownBlock = v.ownBlock ∨ v'.ownBlock = some w.heap.size) → K (a.put o.dst v') w') : o.wp P a w K Q := by
  obtain ⟨v', w', hrun, h2, h3, h4⟩ := run_append_rd (P := P) w base size t o.type e i z bytes ht hi hz hsize hby hzs hsz v n xs hown B A m c news hl hr h1 h63 hbytes hbase
  unfold Oper.wp execOp
  simp only [ho, resolve, invoke, builtin, Sem.run_bind, Sem.run_pure, Result.andThen_ok, List.map_toArray, List.map_cons, List.map_nil, hs, hx, hrun]
  exact h v' w' h2 h3 h4

theorem wpList_append_rd {ops : Array Oper} {rest : List Oper} {o : Oper} {a : Act} {Q : Exit → Act → World → Prop} (hgd : o.guard = none) (s x : Operand) (t : TypeId)
    (ho : o.op = .call { callee := .builtin .append, args := #[s, x], argTypes := #[t, t] })
    (base size : Nat) (e : TypeId) (i : TypeInfo) (z : Value) (bytes : Nat) (ht : P.underlying t = some (.slice e)) (hi : P.info? e = some i) (hz : i.zero = some z)
    (hsize : i.size = size) (hby : i.bytes = bytes) (hzs : z.cells.size = size) (hsz : 0 < size)
    (v : Value) (n : Nat) (xs : List Value) (hs : a.eval s = v) (hown : w.ownsRow base e size v n xs)
    (B : Nat) (A : Option Addr) (m c : Nat) (news : List Value) (hx : a.eval x = .slice A m c) (hl : news.length = m * size) (hr : Rd w B A news) (h1 : ∀ u ∈ news, u.oneCell' = true)
    (h63 : n + m ≤ maxLen) (hbytes : (n + m) * bytes ≤ 140737488355328) (hbase : base ≤ w.heap.size)
    (h : ∀ v' w', w'.ownsRow base e size v' (n + m) (xs ++ news) → w.grownBy w' v.ownBlock → (v'.ownBlock = v.ownBlock ∨ v'.ownBlock = some w.heap.size) → wpList P ops Q rest (a.put o.dst v') w') : wpList P ops Q (o :: rest) a w :=
  wpList_plain hgd fun _ hK => wp_append_rd w s x t ho base size e i z bytes ht hi hz hsize hby hzs hsz v n xs hs hown B A m c news hx hl hr h1 h63 hbytes hbase fun v' w' h2 h3 h4 => hK _ _ (h v' w' h2 h3 h4)
end

end Go.Proofs.Ytdmbgjpidlllcaa.AppN

