/- 'append(out, xs...)' onto a row of the call's own, the source nil, empty or not (told by 'Rd'); elements of any number of cells. Of no program. Condition: the new length times the element's bytes is at most 2^47. · The document's own disk: its files as one list of cells, and the contract of its 'take' (a file away). Conditions: the disk lies in memory as 'RefD' says; the place is a file's. · The contract of the document's own 'take' (a file away). Conditions: the disk lies in memory as 'RefD' says; the place is a file's; at most 10^9 files. -/
import Derived.Test.YtapbjmbakpopcaaDoorWords
import Derived.Maps.AppendAt
import Derived.RegionTactic
import Derived.OwnWalk
import Derived.Test.YtapbjmbakpopcaaDoorRefNames
namespace Go.Proofs.YtapbjmbakpopcaaDoor.AppN
open Go Go.RowKit Words

section
variable {P : Program} (w : World)

theorem run_append_nil (base size : Nat) (t ty e : TypeId) (i : TypeInfo) (ht : P.underlying t = some (.slice e)) (hi : P.info? e = some i)
    (v : Value) (n : Nat) (xs : List Value) (hown : w.ownsRow base e size v n xs) (c : Nat) : (Builtin.append_ #[t, t] ty #[v, .slice none 0 c]).run P w = .ok v w := by
  rcases hown.2 with ⟨rfl, rfl⟩ | ⟨g, cap, cur, rfl, _, _, hnc, _⟩
  · simp [Builtin.append_, run_underlying ht, sizeOf, typeInfo, hi, Builtin.lenOf, Builtin.firstCells]
  · simp [Builtin.append_, run_underlying ht, sizeOf, typeInfo, hi, Builtin.lenOf, Builtin.firstCells, hnc, storeCells]

theorem run_append_rd (base size : Nat) (t ty e : TypeId) (i : TypeInfo) (z : Value) (bytes : Nat) (ht : P.underlying t = some (.slice e)) (hi : P.info? e = some i) (hz : i.zero = some z)
    (hsize : i.size = size) (hby : i.bytes = bytes) (hzs : z.cells.size = size) (hsz : 0 < size)
    (v : Value) (n : Nat) (xs : List Value) (hown : w.ownsRow base e size v n xs)
    (B : Nat) (A : Option Addr) (m c : Nat) (news : List Value) (hl : news.length = m * size) (hr : Rd w B A news) (h1 : ∀ u ∈ news, u.oneCell' = true)
    (h63 : n + m ≤ maxLen) (hbytes : (n + m) * bytes ≤ 140737488355328) (hbase : base ≤ w.heap.size) :
    ∃ v' w', (Builtin.append_ #[t, t] ty #[v, .slice A m c]).run P w = .ok v' w' ∧ w'.ownsRow base e size v' (n + m) (xs ++ news) ∧ w.grownBy w' v.ownBlock ∧
      (v'.ownBlock = v.ownBlock ∨ v'.ownBlock = some w.heap.size) := by
  by_cases hm : m = 0
  · subst hm
    have hn : news = [] := List.eq_nil_of_length_eq_zero (by simpa using hl)
    subst hn
    cases A with
    | none => exact ⟨v, w, run_append_nil w base size t ty e i ht hi v n xs hown c, by simpa using hown, World.grownBy.refl w _, .inl rfl⟩
    | some ad =>
      obtain ⟨v', w', hrun, h2, h3, _, h5⟩ := run_append_own_at (P := P) w base t ty e i z size bytes ht hi hz hsize hby hzs hsz v n xs hown ad 0 c [] (by simp) (by simp) h1 h63 hbytes hbase
      exact ⟨v', w', hrun, h2, h3, h5⟩
  · obtain ⟨b, off, rfl, _, _⟩ := hr (by rw [hl]; exact Nat.mul_pos (by omega) hsz)
    obtain ⟨v', w', hrun, h2, h3, _, h5⟩ := run_append_own_at (P := P) w base t ty e i z size bytes ht hi hz hsize hby hzs hsz v n xs hown ⟨b, off, none⟩ m c news hl hr.add_ h1 h63 hbytes hbase
    exact ⟨v', w', hrun, h2, h3, h5⟩

theorem wp_append_rd {o : Oper} {a : Act} {K : Act → World → Prop} {Q : Exit → Act → World → Prop} (s x : Operand) (t : TypeId)
    (ho : o.op = .call { callee := .builtin .append, args := #[s, x], argTypes := #[t, t] })
    (base size : Nat) (e : TypeId) (i : TypeInfo) (z : Value) (bytes : Nat) (ht : P.underlying t = some (.slice e)) (hi : P.info? e = some i) (hz : i.zero = some z)
    (hsize : i.size = size) (hby : i.bytes = bytes) (hzs : z.cells.size = size) (hsz : 0 < size)
    (v : Value) (n : Nat) (xs : List Value) (hs : a.eval s = v) (hown : w.ownsRow base e size v n xs)
    (B : Nat) (A : Option Addr) (m c : Nat) (news : List Value) (hx : a.eval x = .slice A m c) (hl : news.length = m * size) (hr : Rd w B A news) (h1 : ∀ u ∈ news, u.oneCell' = true)
    (h63 : n + m ≤ maxLen) (hbytes : (n + m) * bytes ≤ 140737488355328) (hbase : base ≤ w.heap.size)
    (h : ∀ v' w', w'.ownsRow base e size v' (n + m) (xs ++ news) → w.grownBy w' v.ownBlock → (v'.ownBlock = v.ownBlock ∨ v'.ownBlock = some w.heap.size) → K (a.put o.dst v') w') : o.wp P a w K Q := by
  obtain ⟨v', w', hrun, h2, h3, h4⟩ := run_append_rd (P := P) w base size t o.type e i z bytes ht hi hz hsize hby hzs hsz v n xs hown B A m c news hl hr h1 h63 hbytes hbase
  unfold Oper.wp execOp
  simp only [ho, resolve, invoke, builtin, Sem.run_bind, Sem.run_pure, Result.andThen_ok, List.map_toArray, List.map_cons, List.map_nil, hs, hx, hrun]
  exact h v' w' h2 h3 h4

theorem wpList_append_rd {ops : Array Oper} {rest : List Oper} {o : Oper} {a : Act} {Q : Exit → Act → World → Prop} (hgd : o.guard = none) (s x : Operand) (t : TypeId)
    (ho : o.op = .call { callee := .builtin .append, args := #[s, x], argTypes := #[t, t] })
    (base size : Nat) (e : TypeId) (i : TypeInfo) (z : Value) (bytes : Nat) (ht : P.underlying t = some (.slice e)) (hi : P.info? e = some i) (hz : i.zero = some z)
    (hsize : i.size = size) (hby : i.bytes = bytes) (hzs : z.cells.size = size) (hsz : 0 < size)
    (v : Value) (n : Nat) (xs : List Value) (hs : a.eval s = v) (hown : w.ownsRow base e size v n xs)
    (B : Nat) (A : Option Addr) (m c : Nat) (news : List Value) (hx : a.eval x = .slice A m c) (hl : news.length = m * size) (hr : Rd w B A news) (h1 : ∀ u ∈ news, u.oneCell' = true)
    (h63 : n + m ≤ maxLen) (hbytes : (n + m) * bytes ≤ 140737488355328) (hbase : base ≤ w.heap.size)
    (h : ∀ v' w', w'.ownsRow base e size v' (n + m) (xs ++ news) → w.grownBy w' v.ownBlock → (v'.ownBlock = v.ownBlock ∨ v'.ownBlock = some w.heap.size) → wpList P ops Q rest (a.put o.dst v') w') : wpList P ops Q (o :: rest) a w :=
  wpList_plain hgd fun _ hK => wp_append_rd w s x t ho base size e i z bytes ht hi hz hsize hby hzs hsz v n xs hs hown B A m c news hx hl hr h1 h63 hbytes hbase fun v' w' h2 h3 h4 => hK _ _ (h v' w' h2 h3 h4)
end

end Go.Proofs.YtapbjmbakpopcaaDoor.AppN

namespace Go.Proofs.YtapbjmbakpopcaaDoor.RefRow
open Go Go.RowKit Words DkSpec RefDisk RefChange AppN

/-- The cells of a list of files. -/
inductive FCells (w : World) (K : Nat → Nat) : List DFile → List Value → Prop
  | nil : FCells w K [] []
  | cons {f : DFile} {l : List DFile} {cs : List Value} {A : Option Addr} {c : Nat} (hc : f.data.length ≤ c) (hm : c ≤ maxLen) (hr : Rd w w.heap.size A (f.data.map B8)) (hk : ∀ b off, A = some ⟨b, off, none⟩ → 0 < f.data.length → K b = 0) (h : FCells w K l cs) :
      FCells w K (f :: l) (S8 f.name :: .slice A f.data.length c :: .int .i64 (f.synced : Int) :: cs)
section
variable {w : World} {K : Nat → Nat}
theorem FCells.length {l : List DFile} {cs : List Value} (h : FCells w K l cs) : cs.length = l.length * 3 := by
  induction h with
  | nil => rfl
  | cons _ _ _ _ _ ih => simp only [List.length_cons, ih]; omega
theorem FCells.append {l l' : List DFile} {cs cs' : List Value} (h : FCells w K l cs) (h' : FCells w K l' cs') : FCells w K (l ++ l') (cs ++ cs') := by
  induction h with
  | nil => exact h'
  | cons a b c d _ ih => exact .cons a b c d ih
theorem FCells.take {l : List DFile} {cs : List Value} (h : FCells w K l cs) : ∀ i, FCells w K (l.take i) (cs.take (i * 3)) := by
  induction h with
  | nil => intro i; simpa using FCells.nil
  | cons a b c d _ ih =>
    intro i
    cases i with
    | zero => simpa using FCells.nil
    | succ i =>
      rw [show (i + 1) * 3 = i * 3 + 1 + 1 + 1 by omega]
      exact .cons a b c d (ih i)
theorem FCells.drop {l : List DFile} {cs : List Value} (h : FCells w K l cs) : ∀ i, FCells w K (l.drop i) (cs.drop (i * 3)) := by
  induction h with
  | nil => intro i; simpa using FCells.nil
  | cons a b c d h ih =>
    intro i
    cases i with
    | zero => simpa using FCells.cons a b c d h
    | succ i =>
      rw [show (i + 1) * 3 = i * 3 + 1 + 1 + 1 by omega]
      exact ih i
theorem FCells.one {l : List DFile} {cs : List Value} (h : FCells w K l cs) : ∀ u ∈ cs, u.oneCell' = true := by
  induction h with
  | nil => intro u hu; cases hu
  | cons _ _ _ _ _ ih =>
    intro u hu
    rcases List.mem_cons.1 hu with rfl | hu
    · rfl
    rcases List.mem_cons.1 hu with rfl | hu
    · rfl
    rcases List.mem_cons.1 hu with rfl | hu
    · rfl
    exact ih u hu
/-- The cells stay while only a disk's own blocks change. -/
theorem FCells.turned {K' : Nat → Nat} {o : Nat} {w' : World} {l : List DFile} {cs : List Value} (h : FCells w K l cs) (ht : Turned K K' o w w') (ho : o ≠ 0) : FCells w' K' l cs := by
  induction h with
  | nil => exact .nil
  | cons a b c d _ ih =>
    refine .cons a b (rd_turned ht ho c (by simpa using d)) (fun b' off' e hl => ?_) ih
    obtain ⟨b2, off2, e2, hb2, _⟩ := c (by simpa using hl)
    rw [e] at e2
    injection e2 with e2
    injection e2 with e2
    subst e2
    exact (ht.kind b' hb2).trans (d b' off' e hl)
theorem FCells.at {l : List DFile} {cs : List Value} (h : FCells w K l cs) : ∀ i f, l[i]? = some f → cs[i * 3]? = some (S8 f.name) ∧ (∃ A' c', cs[i * 3 + 1]? = some (.slice A' f.data.length c') ∧ f.data.length ≤ c' ∧ c' ≤ maxLen ∧ Rd w w.heap.size A' (f.data.map B8) ∧ (∀ b off', A' = some ⟨b, off', none⟩ → 0 < f.data.length → K b = 0)) ∧ cs[i * 3 + 2]? = some (.int .i64 (f.synced : Int)) := by
  induction h with
  | nil => intro i f hi; simp at hi
  | @cons f0 l0 cs0 A c a b r d _ ih =>
    intro i f hi
    cases i with
    | zero =>
      simp only [List.getElem?_cons_zero, Option.some.injEq] at hi
      subst hi
      exact ⟨rfl, ⟨A, c, rfl, a, b, r, d⟩, rfl⟩
    | succ i =>
      simp only [List.getElem?_cons_succ] at hi
      rw [show (i + 1) * 3 = i * 3 + 1 + 1 + 1 by omega]
      exact ih i f hi
/-- A row of cells is a row of files. -/
theorem row_of {o : Nat} {A : Option Addr} {l : List DFile} {cs : List Value} (h : FCells w K l cs) (hr : Rd w w.heap.size A cs) (hk : ∀ b off, A = some ⟨b, off, none⟩ → K b = o) (hz : ∀ b off, A = some ⟨b, off, none⟩ → ∀ j, w.frozen? ⟨b, j, none⟩ = false) : FRow w K o A l := fun hn => by
  have hl := h.length
  obtain ⟨g, off, e, hg, hc⟩ := hr (by omega)
  refine ⟨g, off, e, hg, hk g off e, hz g off e, fun i f hi => ?_⟩
  obtain ⟨h0, ⟨A', c', h1, h1a, h1b, h1c, h1d⟩, h2⟩ := h.at i f hi
  exact ⟨hc _ _ h0, ⟨A', c', by rw [Nat.add_assoc]; exact hc _ _ h1, h1a, h1b, h1c, h1d⟩, by rw [Nat.add_assoc]; exact hc _ _ h2⟩
/-- And the other way round. -/
theorem row_cells {o : Nat} : ∀ (l : List DFile) {A : Option Addr}, FRow w K o A l → ∃ cs, FCells w K l cs ∧ Rd w w.heap.size A cs := by
  intro l A h
  have key : ∀ (l : List DFile) (g off : Nat), (∀ i f, l[i]? = some f → w.cell? ⟨g, off + i * 3, none⟩ = some (S8 f.name) ∧ (∃ A' c', w.cell? ⟨g, off + i * 3 + 1, none⟩ = some (.slice A' f.data.length c') ∧ f.data.length ≤ c' ∧ c' ≤ maxLen ∧ Rd w w.heap.size A' (f.data.map B8) ∧ (∀ b off', A' = some ⟨b, off', none⟩ → 0 < f.data.length → K b = 0)) ∧
      w.cell? ⟨g, off + i * 3 + 2, none⟩ = some (.int .i64 (f.synced : Int))) → ∃ cs, FCells w K l cs ∧ ∀ j u, cs[j]? = some u → w.cell? ⟨g, off + j, none⟩ = some u := by
    intro l
    induction l with
    | nil => intro g off _; exact ⟨[], .nil, fun j u hu => by simp at hu⟩
    | cons f r ih =>
      intro g off h
      obtain ⟨k0, ⟨A', c', k1, k1a, k1b, k1c, k1d⟩, k2⟩ := h 0 f rfl
      obtain ⟨cs, hcs, hcell⟩ := ih g (off + 3) (fun i f' hi => by
        have h3 := h (i + 1) f' (by simpa using hi)
        rw [show off + (i + 1) * 3 = off + 3 + i * 3 by omega] at h3
        exact h3)
      refine ⟨_, .cons k1a k1b k1c k1d hcs, fun j u hu => ?_⟩
      match j, hu with
      | 0, hu => simp at hu; subst hu; simpa using k0
      | 1, hu => simp at hu; subst hu; simpa using k1
      | 2, hu => simp at hu; subst hu; simpa using k2
      | j + 3, hu =>
        rw [show off + (j + 3) = off + 3 + j by omega]
        exact hcell j u (by simpa using hu)
  by_cases hn : 0 < l.length
  · obtain ⟨g, off, e, hg, _, _, hc⟩ := h hn
    obtain ⟨cs, h1, h2⟩ := key l g off hc
    exact ⟨cs, h1, fun _ => ⟨g, off, e, hg, h2⟩⟩
  · obtain rfl : l = [] := List.eq_nil_of_length_eq_zero (by omega)
    exact ⟨[], .nil, Rd.nil_⟩
end
end Go.Proofs.YtapbjmbakpopcaaDoor.RefRow

namespace Go.Proofs.YtapbjmbakpopcaaDoor.RefTake
open Go Go.RowKit Words DkSpec RefDisk RefChange RefRow AppN

def zFile : Value := .agg #[.string ByteArray.empty, .slice none 0 0, .int .i64 0]
section
variable {w w' : World} {K K' : Nat → Nat} {o p : Nat} {d : DSt}
/-- Where nothing that was there has changed. -/
theorem RefD.grow (h : RefD w K o p d) (hs : w.heap.size ≤ w'.heap.size) (hb : ∀ i, i < w.heap.size → w'.heap[i]? = w.heap[i]?) (hk : ∀ i, i < w.heap.size → K' i = K i) (h1 : w'.os = w.os) (h2 : w'.tape = w.tape) (h3 : w'.output = w.output) : RefD w' K' o p d :=
  RefD.turned h (o := o + 1) ⟨h1, h2, h3, hs, fun i hi _ => hb i hi, hk⟩ (by omega) (by omega)
/-- A new row of files. -/
theorem RefD.row (h : RefD w K o p d) (ho : o ≠ 0) {l : List DFile} {cs : List Value} {A : Option Addr} {c : Nat} (hl : FCells w K l cs) (hr : Rd w w.heap.size A cs) (hk : ∀ b off, A = some ⟨b, off, none⟩ → K b = o ∧ b ≠ p) (hz : ∀ b off, A = some ⟨b, off, none⟩ → ∀ j, w.frozen? ⟨b, j, none⟩ = false) (h1 : l.length ≤ c) (h2 : c ≤ maxLen) :
    RefD (w.setCell ⟨p, 0, none⟩ (.slice A l.length c)) K o p { d with files := l } := by
  obtain ⟨A0, c0', hc, hm, hp, hkp, c0, c1, c2, c3, f0, f1, f2, f3, hA, hf⟩ := h
  refine ⟨A, c, h1, h2, by simpa using hp, hkp, ?_, ?_, ?_, ?_, ?_, ?_, ?_, ?_, fun b off e => (hk b off e).2, RefChange.FRow.poke (row_of hl hr (fun b off e => (hk b off e).1) hz) (fun b off e => (hk b off e).2) hkp ho⟩
  · exact World.cell?_setCell_same _ _ _ c0
  · rw [World.cell?_setCell_other _ _ _ _ (by simp)]; exact c1
  · rw [World.cell?_setCell_other _ _ _ _ (by simp)]; exact c2
  · rw [World.cell?_setCell_other _ _ _ _ (by simp)]; exact c3
  all_goals rw [World.frozen?_setCell]; assumption
end

/-- A row of the call's own, as a slice that is read. -/
theorem own_rd {w : World} {base n size : Nat} {e : TypeId} {v : Value} {xs : List Value} (h : w.ownsRow base e size v n xs) : ∃ A c, v = .slice A n c ∧ n ≤ c ∧ c ≤ maxLen ∧ Rd w w.heap.size A xs ∧ (∀ b off, A = some ⟨b, off, none⟩ → base ≤ b ∧ b < w.heap.size ∧ ∀ j, w.frozen? ⟨b, j, none⟩ = false) := by
  have hl := h.1
  rcases h.2 with ⟨rfl, rfl⟩ | ⟨g, cap, cur, rfl, hb, hg, h1, h2, h3, h4⟩
  · exact ⟨none, 0, rfl, by omega, by unfold maxLen; omega, fun hp => by omega, fun b off e => by cases e⟩
  · have hgl : g < w.heap.size := (Array.getElem?_eq_some_iff.1 hg).1
    refine ⟨some ⟨g, 0, none⟩, cap, rfl, h1, h2, fun _ => ⟨g, 0, rfl, hgl, fun j u hu => ?_⟩, fun b off e => ?_⟩
    · have hc := h.cells (g := g) rfl j u hu
      rwa [add_off] at hc
    · injection e with e
      injection e with e
      subst e
      exact ⟨hb, hgl, fun j => h.frozenAt j⟩
/-- What a method without an answer leaves. -/
def MPost (w : World) (K : Nat → Nat) (o p : Nat) (d : DSt) (e : Ending) (w' : World) : Prop := e = .returned (.tuple #[]) ∧ ∃ K', RefD w' K' o p d ∧ Turned K K' o w w'

theorem rd_cut3 {w : World} {B : Nat} {A : Option Addr} {cs : List Value} {n c k : Nat} (h : Rd w B A cs) (hl : cs.length = n * 3) (hn : n ≤ c) : Rd w B (if c = k then A else A.map (·.add (k * 3))) (cs.drop (k * 3)) := fun hp => by
  rw [List.length_drop] at hp
  obtain ⟨b, off, rfl, hb, hcell⟩ := h (by omega)
  rw [if_neg (by omega)]
  refine ⟨b, off + k * 3, by simp [add_off], hb, fun j u hu => ?_⟩
  rw [List.getElem?_drop] at hu
  rw [Nat.add_assoc]
  exact hcell _ u hu

end Go.Proofs.YtapbjmbakpopcaaDoor.RefTake

