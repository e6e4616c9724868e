/- A region that draws its order of evaluation, of no program: an invariant of the set of operations that are done, kept by each operation that may come up, holds at the region's end. Condition: each operation waits only for ones of smaller numbers. -/
import Derived.Orders
namespace Go.Proofs.YtajphomdbdgmbaaDoor.AnyInv
open Go

def cnt : List Bool → Nat
  | [] => 0
  | true :: r => cnt r
  | false :: r => cnt r + 1
theorem cnt_set : ∀ (l : List Bool) (i : Nat), l[i]? = some false → cnt (l.set i true) + 1 = cnt l
  | [], i, h => by simp at h
  | b :: r, 0, h => by
    simp at h
    subst h
    rfl
  | b :: r, i + 1, h => by
    have := cnt_set r i (by simpa using h)
    cases b <;> simp only [List.set_cons_succ, cnt] <;> omega
theorem cnt_zero : ∀ (l : List Bool), cnt l = 0 → ∀ i, i < l.length → l[i]? = some true
  | [], _, i, h => by simp at h
  | true :: r, h, 0, _ => rfl
  | true :: r, h, i + 1, hi => by
    have := cnt_zero r (by simpa [cnt] using h) i (by simpa using hi)
    simpa using this
  | false :: r, h, _, _ => by simp [cnt] at h
theorem cnt_le : ∀ (l : List Bool), cnt l ≤ l.length
  | [] => by simp [cnt]
  | true :: r => by have := cnt_le r; simp only [cnt, List.length_cons]; omega
  | false :: r => by have := cnt_le r; simp only [cnt, List.length_cons]; omega

/-- Each operation waits only for ones of smaller numbers. -/
def Dag (ops : Array Oper) : Prop := ∀ (i : Nat) (o : Oper), ops[i]? = some o → ∀ e ∈ o.after, e.on < i
def dagB (ops : Array Oper) : Bool := (List.range ops.size).all fun i => match ops[i]? with | some o => o.after.all fun e => decide (e.on < i) | none => true
theorem dag_of {ops : Array Oper} (h : dagB ops = true) : Dag ops := by
  intro i o hi e he
  have hlt : i < ops.size := (Array.getElem?_eq_some_iff.1 hi).1
  have h1 := List.all_eq_true.1 h i (List.mem_range.2 hlt)
  rw [hi] at h1
  have h2 := Array.all_eq_true_iff_forall_mem.1 h1 e he
  simpa using h2

section
variable {P : Program} {ops : Array Oper} {Q : Exit → Act → World → Prop} {md : Region.Mode} {I : Array Bool → Act → World → Prop}

theorem any_inv (hdag : Dag ops)
    (hstep : ∀ (L : Array Bool) (a : Act) (w : World) (i : Nat) (o : Oper), ops[i]? = some o → (∀ e ∈ o.after, Region.binds md e = true → L.getD e.on false = true) → L.getD i true = false → L.size = ops.size → I L a w →
      wpOp P ops Q i (fun a' w' => I (L.setIfInBounds i true) a' w') a w)
    (hdone : ∀ (L : Array Bool) (a : Act) (w : World), (∀ i, i < ops.size → L.getD i false = true) → I L a w → Q .normal a w) :
    ∀ (fuel : Nat) (L : Array Bool) (a : Act) (w : World), L.size = ops.size → cnt L.toList ≤ fuel → I L a w → wpAny P md ops Q fuel L a w := by
  intro fuel
  induction fuel with
  | zero =>
    intro L a w hs hc hI
    have hall : ∀ i, i < ops.size → L.getD i false = true := fun i hi => by
      have := cnt_zero L.toList (by omega) i (by simpa using hs ▸ hi)
      simp only [Array.getElem?_toList] at this
      simp [Array.getD_eq_getD_getElem?, this]
    refine ⟨?_, hdone L a w hall hI⟩
    cases hr : Region.ready md ops L with
    | nil => rfl
    | cons x xs =>
      obtain ⟨h0, o, ho, _⟩ := mem_ready.1 (show x ∈ Region.ready md ops L by rw [hr]; simp)
      have h1 := hall x (Array.getElem?_eq_some_iff.1 ho).1
      rw [Array.getD_eq_getD_getElem?] at h0 h1
      cases hx : L[x]? with
      | none => rw [hx] at h1; simp at h1
      | some b => rw [hx] at h0 h1; simp at h0 h1; rw [h0] at h1; cases h1
  | succ fuel ih =>
    intro L a w hs hc hI
    refine ⟨fun hnil => ?_, fun i hi => ?_⟩
    · refine hdone L a w ?_ hI
      intro i
      induction i using Nat.strongRecOn with
      | ind i ihi =>
        intro hi
        have hb : i < L.size := by omega
        cases hx : L[i] with
        | true => simp [Array.getD_eq_getD_getElem?, hb, hx]
        | false =>
          exfalso
          have hm : i ∈ Region.ready md ops L := mem_ready.2 ⟨by simp [Array.getD_eq_getD_getElem?, hb, hx], ops[i], by simp [hi], fun e he _ => by
            have hlt := hdag i ops[i] (by simp [hi]) e he
            exact ihi e.on hlt (by omega)⟩
          rw [hnil] at hm
          cases hm
    · obtain ⟨h0, o, ho, hall⟩ := mem_ready.1 hi
      refine wpOp_mono (fun a' w' h => ih _ a' w' (by simpa using hs) ?_ h) (hstep L a w i o ho hall h0 hs hI)
      have hib : i < L.size := by rw [hs]; exact (Array.getElem?_eq_some_iff.1 ho).1
      have hf : L.toList[i]? = some false := by
        rw [Array.getD_eq_getD_getElem?] at h0
        simp only [Array.getElem?_toList]
        rw [Array.getElem?_eq_getElem hib] at h0 ⊢
        simpa using h0
      have := cnt_set L.toList i hf
      rw [Array.toList_setIfInBounds]
      omega

/-- An operation that yields a value. -/
theorem wpOp_value {i : Nat} {o : Oper} {a : Act} {w w' : World} {v : Value} {K : Act → World → Prop} (hi : ops[i]? = some o) (hw : Region.wanted o (yielded ops a.tmps) = true) (hrun : (execOp a.eval o).run P w = .ok (.value v) w') (h : K (a.put o.dst v) w') : wpOp P ops Q i K a w := by
  unfold wpOp
  simp only [hi, hw, if_true]
  refine .inl ?_
  unfold Oper.wp
  rw [hrun]
  exact h
/-- An operation by its own law. -/
theorem wpOp_wp {i : Nat} {o : Oper} {a : Act} {w : World} {K : Act → World → Prop} (hi : ops[i]? = some o) (hw : Region.wanted o (yielded ops a.tmps) = true) (h : o.wp P a w K Q) : wpOp P ops Q i K a w := by
  unfold wpOp
  simp only [hi, hw, if_true]
  exact .inl h
theorem yields_at {tmps : Array Value} {j d : Nat} (h1 : (ops[j]?).bind (·.dst) = some d) (h2 : tmps[d]? = some (.bool true)) : yielded ops tmps j = some true := by
  unfold yielded
  rw [h1]
  simp [h2]
theorem wanted_at {o : Oper} {tmps : Array Value} {j : Nat} (hg : o.guard = some (j, true)) (hy : yielded ops tmps j = some true) : Region.wanted o (yielded ops tmps) = true := by
  unfold Region.wanted
  rw [hg]
  simp [hy]
/-- An operation that calls a function. -/
theorem wpOp_call {i : Nat} {o : Oper} {a : Act} {w w' : World} {f : FuncId} {args : Array Value} {K : Act → World → Prop} (hi : ops[i]? = some o) (hw : Region.wanted o (yielded ops a.tmps) = true) (hrun : (execOp a.eval o).run P w = .ok (.enter f args) w')
    (h : Calls P f args w' fun e w'' => ∃ v, e = .returned v ∧ K (a.put o.dst v) w'') : wpOp P ops Q i K a w := by
  unfold wpOp
  simp only [hi, hw, if_true]
  refine .inl ?_
  unfold Oper.wp
  rw [hrun]
  refine Calls.mono h ?_
  rintro e w'' ⟨v, rfl, hk⟩
  exact hk
end

/-- A slot's value behind a write to a slot. -/
theorem put_get {a : Act} {d t : Nat} {v : Value} (hd : d < a.tmps.size) : (a.put (some d) v).tmps[t]? = if d = t then some v else a.tmps[t]? := by
  show (a.tmps.setIfInBounds d v)[t]? = _
  rw [Array.getElem?_setIfInBounds]
  simp [hd]
theorem eval_get {a : Act} {t : Nat} {v : Value} (h : a.tmps[t]? = some v) : a.eval (.tmp t) = v := by
  show a.tmps.getD t undef = v
  simp [Array.getD_eq_getD_getElem?, h]
end Go.Proofs.YtajphomdbdgmbaaDoor.AnyInv
