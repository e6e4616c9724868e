/- FrameLinear's last statement, evaluated in whatever order: what is known of each operation's value once it is done. Conditions: none beyond what the lemmas name. -/
import Derived.Test.YtajphomdbdgmbaaDoorSumB
import Derived.Test.YtajphomdbdgmbaaDoorAppend
import Derived.Test.YtajphomdbdgmbaaDoorRefOne
import Derived.Test.YtajphomdbdgmbaaDoorAnyInv
namespace Go.Proofs.YtajphomdbdgmbaaDoor.LinInv
open Go Go.RowKit Words Plain Crc Tab Summ RefSum SumB Put RefPut App AnyInv

/-- A slice of slices that was made just now: its block's cells. -/
def Built (w : World) (v : Value) (cs : List Value) : Prop := ∃ g, v = .slice (some ⟨g, 0, none⟩) cs.length cs.length ∧ w.heap[g]? = some (.cells cs.toArray 24)
theorem built_alloc (w : World) (cs : List Value) (n : Nat) (hn : n = cs.length) : Built (w.alloc (.cells cs.toArray 24)) (.slice (some ⟨w.heap.size, 0, none⟩) n n) cs := by
  subst hn
  refine ⟨_, rfl, ?_⟩
  show (w.heap.push _)[w.heap.size]? = _
  simp
/-- All blocks of slices are as they were. -/
def Kept (w w' : World) : Prop := ∀ (g : Nat) (cs : Array Value), w.heap[g]? = some (Obj.cells cs 24) → w'.heap[g]? = some (Obj.cells cs 24)
theorem built_keep {w w' : World} {v : Value} {cs : List Value} (h : Built w v cs) (hb : Kept w w') : Built w' v cs := by
  obtain ⟨g, hv, hg⟩ := h
  exact ⟨g, hv, hb g _ hg⟩
theorem below_heap {w w' : World} (hb : Below w.heap.size w w') (g : Nat) (o : Obj) (h : w.heap[g]? = some o) : w'.heap[g]? = some o := by
  have hlt : g < w.heap.size := (Array.getElem?_eq_some_iff.1 h).1
  rw [hb.block g hlt, h]
theorem built_rd {w : World} {v : Value} {cs : List Value} (h : Built w v cs) : ∃ A, v = .slice A cs.length cs.length ∧ Rd w w.heap.size A cs := by
  obtain ⟨g, hv, hg⟩ := h
  refine ⟨_, hv, fun _ => ⟨g, 0, rfl, (Array.getElem?_eq_some_iff.1 hg).1, fun j u hu => ?_⟩⟩
  unfold World.cell?
  simp only [hg]
  simpa using hu
theorem good_below {w w' : World} {q : Part} (h : Summ.Good w w.heap.size q) (hb : Below w.heap.size w w') : Summ.Good w' w'.heap.size q := ⟨(h.1.below hb).more hb.size, h.2⟩
/-- Sum of a slice of parts that was made just now. -/
theorem sum_built (ps : List Part) (v : Value) (w : World) (h : Built w v (ps.map SV)) (hg : ∀ q ∈ ps, Summ.Good w w.heap.size q) (hl : ps.length ≤ 10) (hL : Laid w w.heap.size) :
    Calls Tryd.prog 9 #[v] w fun e w' => e = .returned (.int .u32 ((sum (all ps) : Nat) : Int)) ∧ w = w' := by
  obtain ⟨A, hv, hr⟩ := built_rd h
  rw [List.length_map] at hv
  subst hv
  exact sum_any ps A ps.length w w.heap.size w.heap.size hr hg (Nat.le_refl _) (by unfold maxLen; omega) hL

structure Par where
  pX : Part
  pA : Part
  pB : Part
  pC : Part
  pa : Part
  pb : Part
  pc : Part
  N : Value
  bS : Nat
def nilP : Part := ⟨none, 0, []⟩
def U (s : Nat) : Value := .int .u32 (s : Int)
def Own (p : Par) (w : World) (v : Value) (l : List UInt8) : Prop := w.ownsRow p.bS 5 1 v l.length (l.map B8)

/-- What is known of the value of operation i once it is done; L: the operations that are done. -/
def Phi (p : Par) (L : Array Bool) (i : Nat) (v : Value) (w : World) : Prop :=
  match i with
  | 0 => v = SV p.pX
  | 1 => Built w v [SV p.pX]
  | 2 => v = U (sum p.pX.l)
  | 3 => v = SV p.pA
  | 4 => v = p.N
  | 5 => v = SV p.pa
  | 6 => Built w v [SV p.pa]
  | 7 => v = U (sum p.pa.l)
  | 8 => v = SV p.pB
  | 9 => v = p.N
  | 10 => v = SV p.pb
  | 11 => Built w v [SV p.pb]
  | 12 => v = U (sum p.pb.l)
  | 13 => v = U (sum p.pa.l ^^^ sum p.pb.l)
  | 14 => v = SV p.pC
  | 15 => v = p.N
  | 16 => v = SV p.pc
  | 17 => Built w v [SV p.pc]
  | 18 => v = U (sum p.pc.l)
  | 19 => v = U ((sum p.pa.l ^^^ sum p.pb.l) ^^^ sum p.pc.l)
  | 22 => v = SV p.pA
  | 23 => v = SV p.pB
  | 24 => v = SV p.pC
  | 25 => Built w v [SV p.pA, SV p.pB, SV nilP, SV p.pC]
  | 26 => v = U (sum (all [p.pA, p.pB, nilP, p.pC]))
  | 27 => L.getD 29 false = false → Own p w v []
  | 28 => v = SV p.pA
  | 29 => L.getD 31 false = false → Own p w v p.pA.l
  | 30 => v = SV p.pB
  | 31 => L.getD 33 false = false → Own p w v (p.pA.l ++ p.pB.l)
  | 32 => v = SV p.pC
  | 33 => Own p w v (p.pA.l ++ p.pB.l ++ p.pC.l)
  | 34 => ∃ q : Part, Built w v [SV q] ∧ q.l = p.pA.l ++ p.pB.l ++ p.pC.l ∧ Summ.Good w w.heap.size q
  | 35 => v = U (sum (p.pA.l ++ p.pB.l ++ p.pC.l))
  | _ => v = .bool true

theorem getD_set (L : Array Bool) (i j : Nat) (h : (L.setIfInBounds i true).getD j false = false) : L.getD j false = false := by
  cases hx : L.getD j false with
  | false => rfl
  | true => rw [getD_set_true hx] at h; cases h

/-- Behind an operation that changes nothing that was there. -/
theorem phi_keep {p : Par} {L : Array Bool} {i j : Nat} {v : Value} {w w' : World} (h : Phi p L j v w) (hb : Below w.heap.size w w') : Phi p (L.setIfInBounds i true) j v w' := by
  have hB : ∀ cs, Built w v cs → Built w' v cs := fun cs hc => built_keep hc fun g cs' hg => below_heap hb g _ hg
  unfold Phi at h ⊢
  split at h
  all_goals first
    | exact h
    | exact hB _ h
    | exact fun hl => own_keep (h (getD_set _ _ _ hl)) hb
    | exact own_keep h hb
    | exact (let ⟨q, h1, h2, h3⟩ := h; ⟨q, hB _ h1, h2, good_below h3 hb⟩)

def Closed (L : Array Bool) : Prop := (L.getD 29 false = true → L.getD 27 false = true) ∧ (L.getD 31 false = true → L.getD 29 false = true) ∧ (L.getD 33 false = true → L.getD 31 false = true) ∧ (L.getD 34 false = true → L.getD 33 false = true)
theorem closed_set {L : Array Bool} {i : Nat} (h : Closed L) (h1 : i = 29 → L.getD 27 false = true) (h2 : i = 31 → L.getD 29 false = true) (h3 : i = 33 → L.getD 31 false = true) (h4 : i = 34 → L.getD 33 false = true) : Closed (L.setIfInBounds i true) := by
  have key : ∀ x y, (L.getD x false = true → L.getD y false = true) → (i = x → L.getD y false = true) → (L.setIfInBounds i true).getD x false = true → (L.setIfInBounds i true).getD y false = true := by
    intro x y hxy hix hx
    refine getD_set_true ?_
    by_cases e : i = x
    · exact hix e
    · rw [getD_set_ne false e] at hx
      exact hxy hx
  exact ⟨key _ _ h.1 h1, key _ _ h.2.1 h2, key _ _ h.2.2.1 h3, key _ _ h.2.2.2 h4⟩

/-- Behind an append (operation i) onto the row of operation k. -/
theorem phi_app {p : Par} {L : Array Bool} {i k j : Nat} {v : Value} {w w' : World} (hik : (i = 29 ∧ k = 27) ∨ (i = 31 ∧ k = 29) ∨ (i = 33 ∧ k = 31)) (hc : Closed L) (hs : L.size = 39) (hi : L.getD i true = false) (hk : L.getD k false = true) (hj : L.getD j false = true)
    (h : Phi p L j v w) (hb : Kept w w') : Phi p (L.setIfInBounds i true) j v w' := by
  have hB : ∀ cs, Built w v cs → Built w' v cs := fun cs hcs => built_keep hcs hb
  have hL : ∀ x, L.getD x true = false → L.getD x false = false := fun x hx => by
    rw [Array.getD_eq_getD_getElem?] at hx ⊢
    cases e : L[x]? with
    | none => rw [e] at hx; simp at hx
    | some b => rw [e] at hx; simpa using hx
  have hif := hL i hi
  obtain ⟨c1, c2, c3, c4⟩ := hc
  have hset : (L.setIfInBounds i true).getD i false = true := by
    have hlt : i < L.size := by omega
    simp [Array.getD_eq_getD_getElem?, hlt]
  unfold Phi at h ⊢
  split at h
  all_goals first
    | exact h
    | exact hB _ h
    | skip
  · intro hf
    have ht : (L.setIfInBounds i true).getD 29 false = true := by
      rcases hik with ⟨rfl, rfl⟩ | ⟨rfl, rfl⟩ | ⟨rfl, rfl⟩
      · exact hset
      · exact getD_set_true hk
      · exact getD_set_true (c2 hk)
    rw [ht] at hf
    cases hf
  · intro hf
    have ht : (L.setIfInBounds i true).getD 31 false = true := by
      rcases hik with ⟨rfl, rfl⟩ | ⟨rfl, rfl⟩ | ⟨rfl, rfl⟩
      · rw [hif] at hj; cases hj
      · exact hset
      · exact getD_set_true hk
    rw [ht] at hf
    cases hf
  · intro hf
    have ht : (L.setIfInBounds i true).getD 33 false = true := by
      rcases hik with ⟨rfl, rfl⟩ | ⟨rfl, rfl⟩ | ⟨rfl, rfl⟩
      · have := c2 hj; rw [hif] at this; cases this
      · rw [hif] at hj; cases hj
      · exact hset
    rw [ht] at hf
    cases hf
  · exfalso
    rcases hik with ⟨rfl, rfl⟩ | ⟨rfl, rfl⟩ | ⟨rfl, rfl⟩
    · have := c2 (c3 hj); rw [hif] at this; cases this
    · have := c3 hj; rw [hif] at this; cases this
    · rw [hif] at hj; cases hj
  · exfalso
    rcases hik with ⟨rfl, rfl⟩ | ⟨rfl, rfl⟩ | ⟨rfl, rfl⟩
    · have := c2 (c3 (c4 hj)); rw [hif] at this; cases this
    · have := c3 (c4 hj); rw [hif] at this; cases this
    · have := c4 hj; rw [hif] at this; cases this

/-- An append onto a row of bytes changes no block of slices. -/
theorem kept_grown {w w' : World} {base n : Nat} {v : Value} {xs : List Value} (ho : w.ownsRow base 5 1 v n xs) (hg : w.grownBy w' v.ownBlock) : Kept w w' := by
  intro g cs h
  have hlt : g < w.heap.size := (Array.getElem?_eq_some_iff.1 h).1
  rw [hg.block g hlt ?_, h]
  intro e
  rcases ho.2 with ⟨rfl, _⟩ | ⟨g', cap, cur, rfl, _, h2, _⟩
  · simp [Value.ownBlock] at e
  · simp [Value.ownBlock] at e
    subst e
    rw [h] at h2
    injection h2 with h2
    injection h2 with _ h3
    exact absurd h3 (by decide)

/-- Where an operation leaves its value. -/
def dst (i : Nat) : Nat := if i = 38 then 6 else 43 + i
/-- What is known in the midst of the statement. -/
def Inv (p : Par) (w0 : World) (L : Array Bool) (a : Act) (w : World) : Prop :=
  (a.tmps.size = 81 ∧ a.defers = [] ∧ a.tmps[0]? = some (SV p.pA) ∧ a.tmps[1]? = some (SV p.pB) ∧ a.tmps[2]? = some (SV p.pC) ∧ a.tmps[7]? = some p.N ∧ a.tmps[8]? = some (SV p.pX)) ∧
  Below w0.heap.size w0 w ∧ Closed L ∧ ∀ j, j < 39 → L.getD j false = true → ∃ v, a.tmps[dst j]? = some v ∧ Phi p L j v w

theorem inv_put {p : Par} {w0 w w' : World} {L : Array Bool} {a : Act} (hI : Inv p w0 L a w) (i d : Nat) (hi : i < 39) (hd : d = dst i) (v : Value) (hb : Below w0.heap.size w0 w') (hc : Closed (L.setIfInBounds i true))
    (hk : ∀ j u, j ≠ i → L.getD j false = true → Phi p L j u w → Phi p (L.setIfInBounds i true) j u w') (hv : Phi p (L.setIfInBounds i true) i v w') : Inv p w0 (L.setIfInBounds i true) (a.put (some d) v) w' := by
  subst hd
  obtain ⟨⟨s0, s1, s2, s3, s4, s5, s6⟩, _, _, h⟩ := hI
  have hdl : dst i < a.tmps.size := by unfold dst; split <;> omega
  have hdn : dst i = 6 ∨ 43 ≤ dst i := by unfold dst; split <;> omega
  refine ⟨⟨by show (a.tmps.setIfInBounds _ _).size = 81; simp [s0], s1, ?_, ?_, ?_, ?_, ?_⟩, hb, hc, fun j hj hl => ?_⟩
  · rw [put_get hdl, if_neg (by omega)]; exact s2
  · rw [put_get hdl, if_neg (by omega)]; exact s3
  · rw [put_get hdl, if_neg (by omega)]; exact s4
  · rw [put_get hdl, if_neg (by omega)]; exact s5
  · rw [put_get hdl, if_neg (by omega)]; exact s6
  · by_cases e : j = i
    · subst e
      exact ⟨v, by rw [put_get hdl, if_pos rfl], hv⟩
    · have hl' : L.getD j false = true := by rwa [getD_set_ne false (Ne.symm e)] at hl
      obtain ⟨u, h1, h2⟩ := h j hj hl'
      refine ⟨u, ?_, hk j u e hl' h2⟩
      rw [put_get hdl, if_neg ?_]
      · exact h1
      · unfold dst
        split <;> split <;> omega

/-- Behind an operation that changes nothing that was there. -/
theorem inv_plain {p : Par} {w0 w w' : World} {L : Array Bool} {a : Act} (hI : Inv p w0 L a w) (i d : Nat) (hi : i < 39) (hd : d = dst i) (v : Value) (hb : Below w.heap.size w w')
    (h1 : i = 29 → L.getD 27 false = true) (h2 : i = 31 → L.getD 29 false = true) (h3 : i = 33 → L.getD 31 false = true) (h4 : i = 34 → L.getD 33 false = true)
    (hv : Phi p (L.setIfInBounds i true) i v w') : Inv p w0 (L.setIfInBounds i true) (a.put (some d) v) w' :=
  inv_put hI i d hi hd v (hI.2.1.trans (hb.mono hI.2.1.size)) (closed_set hI.2.2.1 h1 h2 h3 h4) (fun _ _ _ _ h => phi_keep h hb) hv

/-- The value of an operation that is done. -/
theorem inv_get {p : Par} {w0 w : World} {L : Array Bool} {a : Act} (hI : Inv p w0 L a w) (j : Nat) (hj : j < 39) (hl : L.getD j false = true) : ∃ v, a.eval (.tmp (dst j)) = v ∧ a.tmps[dst j]? = some v ∧ Phi p L j v w := by
  obtain ⟨v, h1, h2⟩ := hI.2.2.2 j hj hl
  exact ⟨v, eval_get h1, h1, h2⟩
end Go.Proofs.YtajphomdbdgmbaaDoor.LinInv
