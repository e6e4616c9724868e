/- The program's disk in memory ('PAt', 'PDisk'): a struct, a map from names to boxes, in each box a row of bytes and how many of them are synced; what keeps it. Conditions: none. · The contracts of Down, refusal and change, and of New. Conditions: the disk lies in memory as 'PAt' says; the names' lengths are at most the model's greatest. -/
import Derived.Test.YtjninegpaoblfaaGreatDoorPdLooks
import Derived.Test.YtjninegpaoblfaaGreatDoorRefRows
import Derived.Maps.Own
import Derived.Maps.OwnSet
import Derived.Maps.OwnOps
import Derived.Maps.Keyed
namespace Go.Proofs.YtjninegpaoblfaaGreatDoor.PdDisk
open Go Go.RowKit Go.Maps Words DkSpec PdLook RefDisk

/-- How a pointer to a box reads: the box's block; nil: -1. -/
def ptrR : Value → Option (DataW Unit × List MemPlace)
  | .pointer none => some (.lit (.int .i64 (-1)), [])
  | .pointer (some a) => if a = ⟨a.block, 0, none⟩ then some (.lit (.int .i64 (a.block : Int)), []) else none
  | _ => none
def ptr (g : Nat) : Value := .pointer (some ⟨g, 0, none⟩)
def datum (g : Nat) : DataW Unit := .lit (.int .i64 (g : Int))
def nothing : DataW Unit := .lit (.int .i64 (-1))
theorem ptrR_ptr (g : Nat) : ptrR (ptr g) = some (datum g, []) := by simp [ptrR, ptr, datum]
theorem ptrR_nil : ptrR (.pointer none) = some (nothing, []) := rfl
theorem ptrR_inv {v : Value} {g : Nat} {ps : List MemPlace} (h : ptrR v = some (datum g, ps)) : v = ptr g := by
  unfold ptrR at h
  split at h
  · simp [datum] at h
  · rename_i a
    split at h
    · rename_i ha
      simp [datum] at h
      have e : a.block = g := by have := h.1; omega
      rw [ha, e]
      rfl
    · cases h
  · cases h
theorem ptrR_inv_nil {v : Value} {ps : List MemPlace} (h : ptrR v = some (nothing, ps)) : v = .pointer none := by
  unfold ptrR at h
  split at h
  · rfl
  · split at h
    · simp [nothing] at h
    · cases h
  · cases h

/-- A file in its box. -/
structure FileAt (w : World) (K : Nat → Nat) (o g : Nat) (v : Value) (f : DFile) : Prop where
  box : w.heap[g]? = some (.cells #[v, .int .i64 (f.synced : Int)] 73 (0, 0))
  row : w.ownsRow 0 5 1 v f.data.length (f.data.map B8)
  kind : K g = o
  rkind : ∀ q, v.ownBlock = some q → K q = o
/-- A disk: struct p, map M. -/
structure PAt (w : World) (K : Nat → Nat) (o p M : Nat) (D : DataW Unit) (L : Int) (G : List UInt8 → Nat) (Q : List UInt8 → Value) (d : DSt) : Prop where
  struct : w.heap[p]? = some (.cells #[.map (some M), .bool d.full, .int .i64 L] 60 (0, 0))
  kp : K p = o
  kM : K M = o
  map : w.ownsMap Tryz.prog 9 ptrR M (Maps.size D) D
  low : -9223372036854775808 ≤ L
  high : L ≤ 9223372036854775807
  off : d.off = decide (L = 0)
  left : 0 ≤ L → d.left = L
  un : L < 0 → d.left < 0
  good : DkSpec.Good d
  tells : ∀ s, Maps.has D (.string s) = (fileOf s d.files).isSome
  at_ : ∀ s f, fileOf s d.files = some f → D.atKey (.string s) nothing = datum (G s) ∧ FileAt w K o (G s) (Q s) f
  apart : ∀ s s' f f', fileOf s d.files = some f → fileOf s' d.files = some f' → s ≠ s' → G s ≠ G s' ∧ ∀ q, (Q s).ownBlock = some q → (Q s').ownBlock ≠ some q
def PDisk (w : World) (K : Nat → Nat) (o p : Nat) (d : DSt) : Prop := ∃ M D L G Q, PAt w K o p M D L G Q d

theorem keyed : Keyed Tryz.prog 9 := string_keyed Tryz.underlying9
theorem key (s : List UInt8) (h : s.length ≤ maxLen) : keyOf Tryz.prog 9 (S8 s) = some (.string s) := by
  unfold keyOf S8
  rw [Tryz.underlying9]
  have : (ByteArray.mk s.toArray).size ≤ maxLen := by show s.toArray.size ≤ _; simpa using h
  simp [mapKey, this]
theorem zeroP (w : World) : (zeroValue 67).run Tryz.prog w = .ok (.pointer none) w := by kernel_rfl

theorem tight {w : World} {k : TypeId} {b n : Nat} {D : DataW Unit} (h : w.ownsMap Tryz.prog k ptrR b n D) : w.ownsMap Tryz.prog k ptrR b (Maps.size D) D := by
  obtain ⟨es, clock, hb, F, hs, rfl⟩ := h
  exact ⟨es, clock, hb, F, by simp [Maps.size, length_sorted], rfl⟩
theorem name_len {d : DSt} (h : DkSpec.Good d) {s : List UInt8} {f : DFile} (hl : fileOf s d.files = some f) : s.length ≤ 32 := by
  obtain ⟨rfl, hm⟩ := look_name hl
  have := (h.2 f hm).1
  unfold nameOk at this
  simp only [Bool.and_eq_true, decide_eq_true_eq] at this
  omega

section
variable {w w' : World} {K K' : Nat → Nat} {o p M : Nat} {D : DataW Unit} {L : Int} {G : List UInt8 → Nat} {Q : List UInt8 → Value} {d : DSt}
theorem lt_of {g : Nat} {x : Obj} (h : w.heap[g]? = some x) : g < w.heap.size := (Array.getElem?_eq_some_iff.1 h).1
theorem row_same {v : Value} {n : Nat} {xs : List Value} (h : w.ownsRow 0 5 1 v n xs) (hq : ∀ q, v.ownBlock = some q → w'.heap[q]? = w.heap[q]?) : w'.ownsRow 0 5 1 v n xs := by
  obtain ⟨h1, h2⟩ := h
  refine ⟨h1, ?_⟩
  rcases h2 with h2 | ⟨g, cap, cur, hv, h3, h4, h5⟩
  · exact .inl h2
  · exact .inr ⟨g, cap, cur, hv, h3, (hq g (by rw [hv]; rfl)).trans h4, h5⟩
theorem row_obj {v : Value} {n : Nat} {xs : List Value} (h : w.ownsRow 0 5 1 v n xs) {q : Nat} (hq : v.ownBlock = some q) : ∃ cur, w.heap[q]? = some (.cells cur 5 (0, 0)) := by
  rcases h.2 with ⟨rfl, _⟩ | ⟨g, cap, cur, rfl, _, h4, _⟩
  · cases hq
  · cases hq; exact ⟨cur, h4⟩
theorem FileAt.keep {g : Nat} {v : Value} {f : DFile} (h : FileAt w K o g v f) (hg : w'.heap[g]? = w.heap[g]?) (hq : ∀ q, v.ownBlock = some q → w'.heap[q]? = w.heap[q]?) (hk : ∀ i, i < w.heap.size → K' i = K i) : FileAt w' K' o g v f :=
  ⟨hg.trans h.box, row_same h.row hq, (hk g (lt_of h.box)).trans h.kind, fun q e => (hk q (h.row.lt q e).2).trans (h.rkind q e)⟩
theorem map_same {n : Nat} (h : w.ownsMap Tryz.prog 9 ptrR M n D) (hb : w'.heap[M]? = w.heap[M]?) : w'.ownsMap Tryz.prog 9 ptrR M n D := by
  obtain ⟨es, clock, h1, h2⟩ := h
  exact ⟨es, clock, hb.trans h1, h2⟩
theorem map_obj {n : Nat} (h : w.ownsMap Tryz.prog 9 ptrR M n D) : ∃ es clock, w.heap[M]? = some (.map es clock) := by
  obtain ⟨es, clock, h1, _⟩ := h
  exact ⟨es, clock, h1⟩
theorem PAt.ne_pM (h : PAt w K o p M D L G Q d) : M ≠ p := fun e => by
  obtain ⟨es, clock, hM⟩ := map_obj h.map
  rw [e, h.struct] at hM
  cases hM
theorem PAt.ne_g (h : PAt w K o p M D L G Q d) {s : List UInt8} {f : DFile} (hl : fileOf s d.files = some f) : G s ≠ p ∧ G s ≠ M := by
  have hb := (h.at_ s f hl).2.box
  obtain ⟨es, clock, hM⟩ := map_obj h.map
  refine ⟨fun e => ?_, fun e => ?_⟩
  · rw [e, h.struct] at hb; simp at hb
  · rw [e, hM] at hb; cases hb
theorem PAt.ne_q (h : PAt w K o p M D L G Q d) {s : List UInt8} {f : DFile} (hl : fileOf s d.files = some f) {q : Nat} (hq : (Q s).ownBlock = some q) : q ≠ p ∧ q ≠ M ∧ ∀ s' f', fileOf s' d.files = some f' → q ≠ G s' := by
  obtain ⟨cur, hb⟩ := row_obj (h.at_ s f hl).2.row hq
  obtain ⟨es, clock, hM⟩ := map_obj h.map
  refine ⟨fun e => ?_, fun e => ?_, fun s' f' hl' e => ?_⟩
  · rw [e, h.struct] at hb; simp at hb
  · rw [e, hM] at hb; cases hb
  · rw [e, (h.at_ s' f' hl').2.box] at hb; simp at hb

/-- Where nothing of the disk's has changed. -/
theorem PAt.keep (h : PAt w K o p M D L G Q d) (hb : ∀ i, i < w.heap.size → K i = o → w'.heap[i]? = w.heap[i]?) (hk : ∀ i, i < w.heap.size → K' i = K i) : PAt w' K' o p M D L G Q d := by
  obtain ⟨es, clock, hM⟩ := map_obj h.map
  refine { h with struct := (hb p (lt_of h.struct) h.kp).trans h.struct, kp := (hk p (lt_of h.struct)).trans h.kp, kM := (hk M (lt_of hM)).trans h.kM, map := map_same h.map (hb M (lt_of hM) h.kM), at_ := fun s f hl => ?_ }
  obtain ⟨h1, h2⟩ := h.at_ s f hl
  exact ⟨h1, h2.keep (hb _ (lt_of h2.box) h2.kind) (fun q hq => hb q (h2.row.lt q hq).2 (h2.rkind q hq)) hk⟩
/-- Another disk stays. -/
theorem PDisk.turned {o2 : Nat} (h : PDisk w K o2 p d) (ht : Turned K K' o w w') (h2 : o2 ≠ o) : PDisk w' K' o2 p d := by
  obtain ⟨M, D, L, G, Q, h⟩ := h
  exact ⟨M, D, L, G, Q, h.keep (fun i hi hk => ht.block i hi (by rw [hk]; exact h2)) ht.kind⟩
theorem PDisk.grow (h : PDisk w K o p d) (hb : ∀ i, i < w.heap.size → w'.heap[i]? = w.heap[i]?) : PDisk w' K o p d := by
  obtain ⟨M, D, L, G, Q, h⟩ := h
  exact ⟨M, D, L, G, Q, h.keep (fun i hi _ => hb i hi) (fun _ _ => rfl)⟩
theorem turned_below (h : Below w.heap.size w w') : Turned K K o w w' := ⟨h.os, h.tape, h.output, h.size, fun i hi _ => h.block i hi, fun _ _ => rfl⟩

/-- The struct's own cells. -/
theorem PAt.poke (h : PAt w K o p M D L G Q d) {b : Bool} {L' : Int} {d' : DSt} (hs : w'.heap[p]? = some (.cells #[.map (some M), .bool b, .int .i64 L'] 60 (0, 0))) (hb : ∀ i, i ≠ p → w'.heap[i]? = w.heap[i]?)
    (hfull : d'.full = b) (h1 : -9223372036854775808 ≤ L') (h2 : L' ≤ 9223372036854775807) (hoff : d'.off = decide (L' = 0)) (hleft : 0 ≤ L' → d'.left = L') (hun : L' < 0 → d'.left < 0) (hf : d'.files = d.files) : PAt w' K o p M D L' G Q d' := by
  refine ⟨by rw [hfull]; exact hs, h.kp, h.kM, map_same h.map (hb M h.ne_pM), h1, h2, hoff, hleft, hun, ⟨by rw [hf]; exact h.good.1, by rw [hf]; exact h.good.2⟩, by rw [hf]; exact h.tells, fun s f hl => ?_, by rw [hf]; exact h.apart⟩
  rw [hf] at hl
  obtain ⟨k1, k2⟩ := h.at_ s f hl
  exact ⟨k1, k2.keep (hb _ (h.ne_g hl).1) (fun q hq => hb q (h.ne_q hl hq).1) (fun _ _ => rfl)⟩
theorem turned_setCell {p j : Nat} {u : Value} (hp : K p = o) : Turned K K o w (w.setCell ⟨p, j, none⟩ u) := RefChange.turned_poke hp

/-- The file of one name, its box or its row changed. -/
theorem PAt.file (h : PAt w K o p M D L G Q d) (hk : ∀ i, i < w.heap.size → K' i = K i) {s : List UInt8} {f f' : DFile} {v' : Value} {d' : DSt} (hl : fileOf s d.files = some f) (hf : FileAt w' K' o (G s) v' f')
    (hb : ∀ i, i < w.heap.size → i ≠ G s → (Q s).ownBlock ≠ some i → w'.heap[i]? = w.heap[i]?) (hv : ∀ q, v'.ownBlock = some q → (Q s).ownBlock = some q ∨ w.heap.size ≤ q)
    (hg : DkSpec.Good d') (hlook : ∀ s', fileOf s' d'.files = if s' = s then some f' else fileOf s' d.files) (h1 : d'.full = d.full) (h2 : d'.off = d.off) (h3 : d'.left = d.left) :
    PAt w' K' o p M D L G (fun s' => if s' = s then v' else Q s') d' := by
  obtain ⟨es, clock, hM⟩ := map_obj h.map
  have ng := h.ne_g hl
  have nq : ∀ i, (∀ q, (Q s).ownBlock = some q → q ≠ i) → (Q s).ownBlock ≠ some i := fun i hi e => hi i e rfl
  refine ⟨?_, (hk p (lt_of h.struct)).trans h.kp, (hk M (lt_of hM)).trans h.kM, map_same h.map (hb M (lt_of hM) ng.2.symm (nq M fun q hq => (h.ne_q hl hq).2.1)), h.low, h.high, by rw [h2]; exact h.off, by rw [h3]; exact h.left, by rw [h3]; exact h.un, hg, fun s' => ?_, fun s' x hx => ?_, fun s1 s2 x1 x2 hx1 hx2 hne => ?_⟩
  · rw [hb p (lt_of h.struct) ng.1.symm (nq p fun q hq => (h.ne_q hl hq).1), h1]
    exact h.struct
  · rw [h.tells, hlook]
    by_cases e : s' = s
    · rw [if_pos e, e, hl]; rfl
    · rw [if_neg e]
  · rw [hlook] at hx
    by_cases e : s' = s
    · subst e
      rw [if_pos rfl] at hx
      cases hx
      rw [if_pos rfl]
      exact ⟨(h.at_ s' f hl).1, hf⟩
    · rw [if_neg e] at hx ⊢
      obtain ⟨k1, k2⟩ := h.at_ s' x hx
      obtain ⟨a1, a2⟩ := h.apart s' s x f hx hl e
      refine ⟨k1, k2.keep (hb _ (lt_of k2.box) a1 (nq _ fun q hq => (h.ne_q hl hq).2.2 s' x hx)) (fun q hq => hb q (k2.row.lt q hq).2 ((h.ne_q hx hq).2.2 s f hl) (a2 q hq)) hk⟩
  · have key : ∀ s2 x2, fileOf s2 d.files = some x2 → s ≠ s2 → G s ≠ G s2 ∧ ∀ q, v'.ownBlock = some q → (Q s2).ownBlock ≠ some q := fun s2 x2 hx2 hne => by
      obtain ⟨a1, a2⟩ := h.apart s s2 f x2 hl hx2 hne
      refine ⟨a1, fun q hq e => ?_⟩
      rcases hv q hq with e2 | e2
      · exact a2 q e2 e
      · have := ((h.at_ s2 x2 hx2).2.row.lt q e).2
        omega
    rw [hlook] at hx1 hx2
    by_cases e1 : s1 = s
    · subst e1
      rw [if_neg (fun e => hne e.symm)] at hx2
      rw [if_pos rfl, if_neg (fun e => hne e.symm)]
      exact key s2 x2 hx2 hne
    · rw [if_neg e1] at hx1 ⊢
      by_cases e2 : s2 = s
      · subst e2
        rw [if_pos rfl]
        obtain ⟨a1, a2⟩ := key s1 x1 hx1 (fun e => e1 e.symm)
        exact ⟨a1.symm, fun q hq e => a2 q e hq⟩
      · rw [if_neg e2] at hx2 ⊢
        exact h.apart s1 s2 x1 x2 hx1 hx2 hne
/-- The map changed: a file's name gone. -/
theorem PAt.gone (h : PAt w K o p M D L G Q d) {s : List UInt8} {n : Nat} {d' : DSt} (hm : w'.ownsMap Tryz.prog 9 ptrR M n (D.del (.string s))) (hb : ∀ i, i ≠ M → w'.heap[i]? = w.heap[i]?)
    (hg : DkSpec.Good d') (hlook : ∀ s', fileOf s' d'.files = if s' = s then none else fileOf s' d.files) (h1 : d'.full = d.full) (h2 : d'.off = d.off) (h3 : d'.left = d.left) : PAt w' K o p M (D.del (.string s)) L G Q d' := by
  have hne : ∀ s', s' ≠ s → Lit.string s' ≠ Lit.string s := fun s' e e' => e (by injection e')
  refine ⟨?_, h.kp, h.kM, tight hm, h.low, h.high, by rw [h2]; exact h.off, by rw [h3]; exact h.left, by rw [h3]; exact h.un, hg, fun s' => ?_, fun s' x hx => ?_, fun s1 s2 x1 x2 hx1 hx2 hne => ?_⟩
  · rw [hb p h.ne_pM.symm, h1]; exact h.struct
  · rw [hlook]
    by_cases e : s' = s
    · rw [if_pos e, e, has_del_same]; rfl
    · rw [if_neg e, has_del_other (hne s' e)]; exact h.tells s'
  · rw [hlook] at hx
    by_cases e : s' = s
    · rw [if_pos e] at hx; cases hx
    · rw [if_neg e] at hx
      obtain ⟨k1, k2⟩ := h.at_ s' x hx
      exact ⟨by rw [atKey_del_other (hne s' e)]; exact k1, k2.keep (hb _ (h.ne_g hx).2) (fun q hq => hb q (h.ne_q hx hq).2.1) (fun _ _ => rfl)⟩
  · rw [hlook] at hx1 hx2
    split at hx1
    · cases hx1
    · split at hx2
      · cases hx2
      · exact h.apart s1 s2 x1 x2 hx1 hx2 hne
/-- The map changed: a box under a name; the box is no other file's. -/
theorem PAt.named (h : PAt w K o p M D L G Q d) {s : List UInt8} {n g : Nat} {v : Value} {f : DFile} {d' : DSt} (hm : w'.ownsMap Tryz.prog 9 ptrR M n (D.put (.string s) (datum g))) (hb : ∀ i, i ≠ M → w'.heap[i]? = w.heap[i]?)
    (hf : FileAt w K o g v f) (hap : ∀ s' f', fileOf s' d.files = some f' → s' ≠ s → G s' ≠ g ∧ ∀ q, (Q s').ownBlock = some q → v.ownBlock ≠ some q)
    (hg : DkSpec.Good d') (hlook : ∀ s', fileOf s' d'.files = if s' = s then some f else fileOf s' d.files) (h1 : d'.full = d.full) (h2 : d'.off = d.off) (h3 : d'.left = d.left) :
    PAt w' K o p M (D.put (.string s) (datum g)) L (fun s' => if s' = s then g else G s') (fun s' => if s' = s then v else Q s') d' := by
  have hne : ∀ s', s' ≠ s → Lit.string s' ≠ Lit.string s := fun s' e e' => e (by injection e')
  have hD := h.map.isMap
  obtain ⟨es, clock, hM⟩ := map_obj h.map
  have hgM : g ≠ M := fun e => by have := hf.box; rw [e, hM] at this; cases this
  have hvM : ∀ q, v.ownBlock = some q → q ≠ M := fun q hq e => by
    obtain ⟨cur, hc⟩ := row_obj hf.row hq
    rw [e, hM] at hc; cases hc
  refine ⟨?_, h.kp, h.kM, tight hm, h.low, h.high, by rw [h2]; exact h.off, by rw [h3]; exact h.left, by rw [h3]; exact h.un, hg, fun s' => ?_, fun s' x hx => ?_, fun s1 s2 x1 x2 hx1 hx2 h12 => ?_⟩
  · rw [hb p h.ne_pM.symm, h1]; exact h.struct
  · rw [hlook]
    by_cases e : s' = s
    · rw [if_pos e, e, has_put_same hD (by trivial)]; rfl
    · rw [if_neg e, has_put_other (hne s' e)]; exact h.tells s'
  · rw [hlook] at hx
    by_cases e : s' = s
    · rw [if_pos e] at hx
      cases hx
      rw [if_pos e, if_pos e, e, atKey_put_same hD (by trivial)]
      exact ⟨rfl, hf.keep (hb _ hgM) (fun q hq => hb q (hvM q hq)) (fun _ _ => rfl)⟩
    · rw [if_neg e] at hx
      rw [if_neg e, if_neg e]
      obtain ⟨k1, k2⟩ := h.at_ s' x hx
      exact ⟨by rw [atKey_put_other (hne s' e)]; exact k1, k2.keep (hb _ (h.ne_g hx).2) (fun q hq => hb q (h.ne_q hx hq).2.1) (fun _ _ => rfl)⟩
  · rw [hlook] at hx1 hx2
    by_cases e1 : s1 = s
    · subst e1
      rw [if_neg (fun e => h12 e.symm)] at hx2
      rw [if_pos rfl, if_pos rfl, if_neg (fun e => h12 e.symm), if_neg (fun e => h12 e.symm)]
      obtain ⟨a1, a2⟩ := hap s2 x2 hx2 (fun e => h12 e.symm)
      exact ⟨a1.symm, fun q hq e => a2 q e hq⟩
    · rw [if_neg e1] at hx1
      rw [if_neg e1, if_neg e1]
      by_cases e2 : s2 = s
      · subst e2
        rw [if_pos rfl, if_pos rfl]
        exact hap s1 x1 hx1 e1
      · rw [if_neg e2] at hx2
        rw [if_neg e2, if_neg e2]
        exact h.apart s1 s2 x1 x2 hx1 hx2 h12
end

/-- A look into the map. -/
theorem look_some {w : World} {K : Nat → Nat} {o p M : Nat} {D : DataW Unit} {L : Int} {G : List UInt8 → Nat} {Q : List UInt8 → Value} {d : DSt} (h : PAt w K o p M D L G Q d) {s : List UInt8} {f : DFile} (hs : s.length ≤ maxLen) (hl : fileOf s d.files = some f) :
    (Instr.lookup 58 (.map (some M)) (S8 s) false).run Tryz.prog w = .ok (ptr (G s)) w := by
  obtain ⟨v, ps, hrun, hv⟩ := h.map.lookup keyed Tryz.underlying58 (zeroP w) ptrR_nil (key s hs)
  rw [(h.at_ s f hl).1] at hv
  rw [hrun, ptrR_inv hv]
theorem look_nil {w : World} {K : Nat → Nat} {o p M : Nat} {D : DataW Unit} {L : Int} {G : List UInt8 → Nat} {Q : List UInt8 → Value} {d : DSt} (h : PAt w K o p M D L G Q d) {s : List UInt8} (hs : s.length ≤ maxLen) (hl : fileOf s d.files = none) :
    (Instr.lookup 58 (.map (some M)) (S8 s) false).run Tryz.prog w = .ok (.pointer none) w := by
  obtain ⟨v, ps, hrun, hv⟩ := h.map.lookup keyed Tryz.underlying58 (zeroP w) ptrR_nil (key s hs)
  have hat : D.atKey (.string s) nothing = nothing := by
    have ht := h.tells s
    rw [hl] at ht
    exact atKey_of_not_has ht nothing
  rw [hat] at hv
  rw [hrun, ptrR_inv_nil hv]
end Go.Proofs.YtjninegpaoblfaaGreatDoor.PdDisk

namespace Go.Proofs.YtjninegpaoblfaaGreatDoor.PdChange
open Go Go.RowKit Go.Maps Words DkSpec PdLook RefDisk PdDisk

/-- Whether a call with these names is refused ahead of all. -/
def refusedL (l : List (List UInt8)) (d : DSt) : Nat := if !l.all nameOk then 1 else if d.off then 23 else 0
theorem refused_one (a : List UInt8) (d : DSt) : refusedL [a] d = refused a a d := by unfold refusedL refused; cases h : nameOk a <;> simp [h]
theorem refused_two (a b : List UInt8) (d : DSt) : refusedL [a, b] d = refused a b d := by unfold refusedL refused; cases h1 : nameOk a <;> cases h2 : nameOk b <;> simp [h1, h2]

theorem eq_nil (b : Nat) (w : World) : (binOp .eql 26 (.pointer (some ⟨b, 0, none⟩)) (.pointer none)).run Tryz.prog w = .ok (.bool false) w := by kernel_rfl
theorem nil_nil (w : World) : (binOp .eql 26 (.pointer none) (.pointer none)).run Tryz.prog w = .ok (.bool true) w := by kernel_rfl
theorem ne_nil (b : Nat) (w : World) : (binOp .neq 26 (.pointer (some ⟨b, 0, none⟩)) (.pointer none)).run Tryz.prog w = .ok (.bool true) w := by kernel_rfl
theorem ne_none (w : World) : (binOp .neq 26 (.pointer none) (.pointer none)).run Tryz.prog w = .ok (.bool false) w := by kernel_rfl

theorem down_nil (w : World) : Calls Tryz.prog 13 #[.pointer none] w fun e w' => e = .returned (.bool false) ∧ w = w' := by
  have hne := ne_none
  go_enter Tryz.func13, Tryz.ntmps13
  go_wp2
  go_ret
  exact ⟨rfl, rfl⟩
section
variable {w : World} {K : Nat → Nat} {o p M : Nat} {D : DataW Unit} {L : Int} {G : List UInt8 → Nat} {Q : List UInt8 → Value} {d : DSt}
theorem PAt.cells (h : PAt w K o p M D L G Q d) : w.cell? ⟨p, 0, none⟩ = some (.map (some M)) ∧ w.cell? ⟨p, 1, none⟩ = some (.bool d.full) ∧ w.cell? ⟨p, 2, none⟩ = some (.int .i64 L) := by
  have hs := h.struct
  refine ⟨?_, ?_, ?_⟩ <;> (unfold World.cell?; rw [hs]; rfl)
theorem PAt.frozen (h : PAt w K o p M D L G Q d) (j : Nat) : w.frozen? ⟨p, j, none⟩ = false := by
  unfold World.frozen?
  rw [h.struct]
  simp
end
theorem down_any (w : World) (K : Nat → Nat) (o p M : Nat) (D : DataW Unit) (L : Int) (G : List UInt8 → Nat) (Q : List UInt8 → Value) (d : DSt) (h : PAt w K o p M D L G Q d) :
    Calls Tryz.prog 13 #[.pointer (some ⟨p, 0, none⟩)] w fun e w' => e = .returned (.bool d.off) ∧ w = w' := by
  obtain ⟨c0, c1, c2⟩ := PAt.cells h
  have HO := Lib.hid h.off
  have hne := ne_nil p
  clear h c0 c1
  by_cases hL : L = 0
  · have d1 : (L == 0) = true := by simp [hL]
    have HX : Hid (d.off = true) := Lib.hid (by rw [HO.out]; simp [hL])
    clear hL
    go_enter Tryz.func13, Tryz.ntmps13
    go_wp2
    go_ret
    exact ⟨by rw [HX.out]; rfl, rfl⟩
  · have d1 : (L == 0) = false := beq_eq_false_iff_ne.2 hL
    have HX : Hid (d.off = false) := Lib.hid (by rw [HO.out]; simp [hL])
    clear hL
    go_enter Tryz.func13, Tryz.ntmps13
    go_wp2
    go_ret
    exact ⟨by rw [HX.out]; rfl, rfl⟩

theorem refusal_nil (w : World) (A : Option Addr) (n c : Nat) : Calls Tryz.prog 40 #[.pointer none, .slice A n c] w fun e w' => e = .returned (.int .i64 2) ∧ w = w' := by
  have hne := nil_nil
  go_enter Tryz.func40, Tryz.ntmps40
  go_wp2
  go_ret
  exact ⟨rfl, rfl⟩
def Rel (l : List (List UInt8)) (i : Value) : Prop := ∃ k : Nat, k ≤ l.length ∧ i = .int .i64 (k : Int) ∧ Hid ((l.take k).all nameOk = true)
theorem all_no {l : List (List UInt8)} {k : Nat} (h : k < l.length) (hx : nameOk l[k] = false) : l.all nameOk = false := by
  rw [List.all_eq_false]
  exact ⟨l[k], List.getElem_mem _, by simp [hx]⟩
theorem all_more {l : List (List UInt8)} {k : Nat} (h : k < l.length) (hb : (l.take k).all nameOk = true) (hx : nameOk l[k] = true) : (l.take (k + 1)).all nameOk = true := by
  rw [List.take_succ_eq_append_getElem h, List.all_append, hb]
  simp [hx]
set_option maxHeartbeats 800000 in
set_option maxRecDepth 100000 in
theorem refusal_any (w : World) (K : Nat → Nat) (o p M : Nat) (D : DataW Unit) (L : Int) (G : List UInt8 → Nat) (Q : List UInt8 → Value) (d : DSt) (h : PAt w K o p M D L G Q d) (B : Nat) (A : Option Addr) (c : Nat) (l : List (List UInt8)) (hr : Rd w B A (l.map S8)) (hl : ∀ s ∈ l, s.length ≤ maxLen) (hc : l.length ≤ c) (hm : c ≤ maxLen) :
    Calls Tryz.prog 40 #[.pointer (some ⟨p, 0, none⟩), .slice A l.length c] w fun e w' => e = .returned (.int .i64 (refusedL l d : Int)) ∧ w = w' := by
  have HD := Lib.hid (down_any w K o p M D L G Q d h)
  have HR := Lib.hid hr
  have HL := Lib.hid hl
  unfold maxLen at hm
  have hne := eq_nil p
  have HX : Hid (∀ b, d.off = b → l.all nameOk = true → refusedL l d = if b then 23 else 0) := Lib.hid (fun b hb ha => by unfold refusedL; rw [ha, hb]; rfl)
  have HX1 : Hid (l.all nameOk = false → refusedL l d = 1) := Lib.hid (fun ha => by unfold refusedL; rw [ha]; rfl)
  generalize d.off = off at *
  clear h hr hl
  go_enter Tryz.func40, Tryz.ntmps40
  go_wp2
  go_loop [11] (fun i => Rel l i) (fun i => l.length - (intOf i).toNat)
  case atStart => exact ⟨0, by omega, rfl, Lib.hid rfl⟩
  case round =>
    obtain ⟨k, hk, rfl, hb⟩ := hrel
    by_cases hlt : k < l.length
    · obtain ⟨g, off2, rfl, _, hcell⟩ := HR.out (by simp; omega)
      have k0 := hcell k (S8 l[k]) (by simp [hlt])
      unfold S8 at k0
      have HC := fun w => Lib.hid (PdName.name_list l[k] w (HL.out _ (List.getElem_mem _)))
      have HN := Lib.hid (all_no hlt)
      have HM := Lib.hid (all_more hlt hb.out)
      clear hb hcell
      generalize l[k] = nm at *
      generalize nameOk nm = b at *
      cases b with
      | true =>
        go_wp2_with fail
        refine (HC _).out.mono ?_
        rintro e w1 ⟨rfl, rfl⟩
        go_wp2
        go_round
        case rel => exact ⟨k + 1, by omega, by go_num, Lib.hid (HM.out trivial)⟩
        case measure => simp [intOf]; omega
      | false =>
        go_wp2_with fail
        refine (HC _).out.mono ?_
        rintro e w1 ⟨rfl, rfl⟩
        go_wp2
        go_ret
        exact ⟨by rw [HX1.out (HN.out trivial)]; rfl, rfl⟩
    · have hkn : k = l.length := by omega
      have HF : Hid (l.all nameOk = true) := Lib.hid (by have := hb.out; rwa [hkn, List.take_length] at this)
      clear hb
      subst hkn
      cases off with
      | true =>
        go_wp2_with fail
        refine HD.out.mono ?_
        rintro e w1 ⟨rfl, rfl⟩
        go_wp2
        go_ret
        exact ⟨by rw [HX.out true rfl HF.out]; rfl, rfl⟩
      | false =>
        go_wp2_with fail
        refine HD.out.mono ?_
        rintro e w1 ⟨rfl, rfl⟩
        go_wp2
        go_ret
        exact ⟨by rw [HX.out false rfl HF.out]; rfl, rfl⟩

/-- What 'change' answers and leaves. -/
def ChPost (w : World) (K : Nat → Nat) (o p M : Nat) (D : DataW Unit) (G : List UInt8 → Nat) (Q : List UInt8 → Value) (d : DSt) (l : List (List UInt8)) (e : Ending) (w' : World) : Prop :=
  e = .returned (.int .i64 (refusedL l d : Int)) ∧ (∃ L', PAt w' K o p M D L' G Q (if refusedL l d ≠ 0 then d else stepped d)) ∧ Turned K K o w w'
theorem change_nil (w : World) (A : Option Addr) (n c : Nat) : Calls Tryz.prog 52 #[.pointer none, .slice A n c] w fun e w' => e = .returned (.int .i64 2) ∧ w = w' := by
  have HC := Lib.hid (refusal_nil w A n c)
  go_enter Tryz.func52, Tryz.ntmps52
  go_wp2_with fail
  refine HC.out.mono ?_
  rintro e w1 ⟨rfl, rfl⟩
  go_wp2
  go_ret
  exact ⟨rfl, rfl⟩
set_option maxHeartbeats 800000 in
set_option maxRecDepth 100000 in
theorem change_any (w : World) (K : Nat → Nat) (o p M : Nat) (D : DataW Unit) (L : Int) (G : List UInt8 → Nat) (Q : List UInt8 → Value) (d : DSt) (h : PAt w K o p M D L G Q d) (B : Nat) (A : Option Addr) (c : Nat) (l : List (List UInt8)) (hr : Rd w B A (l.map S8)) (hl : ∀ s ∈ l, s.length ≤ maxLen) (hc : l.length ≤ c) (hm : c ≤ maxLen) :
    Calls Tryz.prog 52 #[.pointer (some ⟨p, 0, none⟩), .slice A l.length c] w (ChPost w K o p M D G Q d l) := by
  have HR := Lib.hid (refusal_any w K o p M D L G Q d h B A c l hr hl hc hm)
  have HP := Lib.hid h
  obtain ⟨c0, c1, c2⟩ := PAt.cells h
  have f2 := PAt.frozen h 2
  have hlow := h.low
  have hhigh := h.high
  clear h hr hl hc hm c0 c1
  generalize hn : l.length = n at *
  clear hn
  by_cases hr : refusedL l d = 0
  · have HZ := Lib.hid hr
    have hoff : d.off = false := by
      cases ho : d.off with
      | false => rfl
      | true => unfold refusedL at hr; rw [ho] at hr; split at hr <;> simp_all
    rw [hr] at HR
    have hL0 : L ≠ 0 := fun e => by have := HP.out.off; rw [hoff, e] at this; simp at this
    by_cases hpos : 0 < L
    · have HS : Hid (PAt (w.setCell ⟨p, 2, none⟩ (.int .i64 (L - 1))) K o p M D (L - 1) G Q (stepped d)) := Lib.hid (by
        have hs := heap_setCell_same w p 2 _ _ (.int .i64 (L - 1)) HP.out.struct
        have hdl := HP.out.left (by omega)
        have hst : stepped d = { d with left := d.left - 1, off := d.left == 1 } := by unfold stepped; rw [if_pos (by omega)]
        refine HP.out.poke (b := d.full) hs (fun i hi => heap_setCell_other w _ i _ hi) (by rw [hst]) (by omega) (by omega) ?_ (fun _ => by rw [hst]; simp; omega) (fun h => by omega) (by rw [hst])
        rw [hst]
        simp only
        rw [hdl, Bool.eq_iff_iff, beq_iff_eq, decide_eq_true_eq]
        omega)
      have HT : Hid (Turned K K o w (w.setCell ⟨p, 2, none⟩ (.int .i64 (L - 1)))) := Lib.hid (turned_setCell HP.out.kp)
      have d1 : decide (0 < L) = true := by simpa using hpos
      clear hr hoff hL0
      go_enter Tryz.func52, Tryz.ntmps52
      go_wp2_with fail
      refine HR.out.mono ?_
      rintro e w1 ⟨rfl, rfl⟩
      go_wp2
      go_ret
      exact ⟨by rw [HZ.out]; rfl, ⟨L - 1, by rw [if_neg (by rw [HZ.out]; simp)]; exact HS.out⟩, HT.out⟩
    · have HS : Hid (PAt w K o p M D L G Q (stepped d)) := Lib.hid (by
        have hun := HP.out.un (by omega)
        have hst : stepped d = d := by unfold stepped; rw [if_neg (by omega)]
        rw [hst]
        exact HP.out)
      have d1 : decide (0 < L) = false := by simpa using hpos
      clear hr hoff hL0 hpos
      go_enter Tryz.func52, Tryz.ntmps52
      go_wp2_with fail
      refine HR.out.mono ?_
      rintro e w1 ⟨rfl, rfl⟩
      go_wp2
      go_ret
      exact ⟨by rw [HZ.out]; rfl, ⟨L, by rw [if_neg (by rw [HZ.out]; simp)]; exact HS.out⟩, Turned.refl _ _ _⟩
  · have HZ := Lib.hid hr
    obtain ⟨r, hrr⟩ : ∃ r, refusedL l d = r := ⟨_, rfl⟩
    rw [hrr] at HR hr
    have HQ := Lib.hid hrr
    have h2 : ((r : Int) != 0) = true := by simp; omega
    clear hr hrr
    go_enter Tryz.func52, Tryz.ntmps52
    go_wp2_with fail
    refine HR.out.mono ?_
    rintro e w1 ⟨rfl, rfl⟩
    go_wp2
    go_ret
    exact ⟨by rw [HQ.out]; rfl, ⟨L, by rw [if_pos HZ.out]; exact HP.out⟩, Turned.refl _ _ _⟩
end Go.Proofs.YtjninegpaoblfaaGreatDoor.PdChange

