/- A region that draws its order, in which a condition on the world is held up to the operations that wait for a load of what is written at the end ('x.f = append(x.f, g(..))'): 'wpAnyD'. Of no program. No conditions. -/
import Derived.OrdersHeld
import Derived.Lib.Hide
namespace Go.Proofs.YtjninegpaoblfaaGreatDoor.RegD
open Go Go.RowKit

section
variable {P : Program} {md : Region.Mode} {ops : Array Oper} {Q : Exit → Act → World → Prop} {S : World → Prop} {dep : Nat → Bool}
/-- j waits for i, by way of others or at once. -/
def needs (md : Region.Mode) (ops : Array Oper) : Nat → Nat → Nat → Bool
  | 0, _, _ => false
  | f + 1, j, i => match ops[j]? with
    | some o => o.after.any fun e => Region.binds md e && (e.on == i || needs md ops f e.on i)
    | none => false
/-- What has come up had all that it waits for ahead of it. -/
def Closed (md : Region.Mode) (ops : Array Oper) (L : Array Bool) : Prop := ∀ j o, ops[j]? = some o → L.getD j false = true → ∀ e ∈ o.after, Region.binds md e = true → L.getD e.on false = true
def closedB (md : Region.Mode) (ops : Array Oper) (L : Array Bool) : Bool := (List.range ops.size).all fun j => !L.getD j false || match ops[j]? with
  | some o => o.after.all fun e => !Region.binds md e || L.getD e.on false
  | none => true
theorem closed_of {L : Array Bool} (h : closedB md ops L = true) : Closed md ops L := by
  intro j o ho hl e he hb
  have hj : j < ops.size := (Array.getElem?_eq_some_iff.1 ho).1
  have h1 := List.all_eq_true.1 h j (List.mem_range.2 hj)
  rw [hl, ho] at h1
  simp only [Bool.not_true, Bool.false_or] at h1
  have h2 := Array.all_eq_true_iff_forall_mem.1 h1 e he
  rw [hb] at h2
  simpa using h2
theorem Closed.set {L : Array Bool} (hc : Closed md ops L) {i : Nat} (hi : i ∈ Region.ready md ops L) : Closed md ops (L.setIfInBounds i true) := by
  obtain ⟨_, oi, hoi, hall⟩ := mem_ready.1 hi
  intro j o ho hl e he hb
  by_cases hij : i = j
  · subst hij
    obtain rfl : o = oi := Option.some.inj (ho.symm.trans hoi)
    exact getD_set_true (hall e he hb)
  · rw [getD_set_ne false hij] at hl
    exact getD_set_true (hc j o ho hl e he hb)
theorem needs_spec {L : Array Bool} (hc : Closed md ops L) : ∀ (f j i : Nat) (o : Oper), ops[j]? = some o → needs md ops f j i = true → (∀ e ∈ o.after, Region.binds md e = true → L.getD e.on false = true) → L.getD i false = true
  | 0, _, _, _, _, h, _ => by cases h
  | f + 1, j, i, o, ho, h, hall => by
    rw [needs, ho] at h
    obtain ⟨e, he, hb⟩ := Array.any_eq_true'.1 h
    simp only [Bool.and_eq_true, Bool.or_eq_true, beq_iff_eq] at hb
    have h1 := hall e he hb.1
    rcases hb.2 with h2 | h2
    · rw [← h2]; exact h1
    · cases hk : ops[e.on]? with
      | none =>
        cases f with
        | zero => cases h2
        | succ f => rw [needs, hk] at h2; cases h2
      | some o2 => exact needs_spec hc f e.on i o2 hk h2 fun e' he' hb' => hc e.on o2 hk h1 e' he' hb'

/-- Whatever order is picked from here on; S holds behind every operation that is none of 'dep', as long as none of those has come up. -/
def wpAnyD (P : Program) (md : Region.Mode) (ops : Array Oper) (Q : Exit → Act → World → Prop) (S : World → Prop) (dep : Nat → Bool) : Nat → Array Bool → Act → World → Prop
  | 0, L, a, w => Region.ready md ops L = [] ∧ Q .normal a w
  | f + 1, L, a, w => (Region.ready md ops L = [] → Q .normal a w) ∧
    ∀ j ∈ Region.ready md ops L, (dep j = true → wpOp P ops Q j (wpAny P md ops Q f (L.setIfInBounds j true)) a w) ∧
      (dep j = false → wpOp P ops Q j (fun a' w' => S w' ∧ wpAnyD P md ops Q S dep f (L.setIfInBounds j true) a' w') a w)
theorem wpAny_of_D : ∀ (f : Nat) (L : Array Bool) (a : Act) (w : World), wpAnyD P md ops Q S dep f L a w → wpAny P md ops Q f L a w
  | 0, _, _, _, h => h
  | f + 1, _, _, _, h => ⟨h.1, fun j hj => by
    cases e : dep j with
    | true => exact (h.2 j hj).1 e
    | false => exact wpOp_mono (fun a' w' h' => wpAny_of_D f _ a' w' h'.2) ((h.2 j hj).2 e)⟩
theorem wpAnyD_first {K i : Nat} {oi : Oper} {v : Value} (hi : ops[i]? = some oi) (hsel : ∀ (j : Nat) (o : Oper) cs b, ops[j]? = some o → o.op ≠ .select cs b)
    (hQ : ∀ c a w, Q (.panic c) (a.put oi.dst v) w → Q (.panic c) a w) (hd : dep i = false) (hn : ∀ j, j < ops.size → dep j = true → needs md ops K j i = true) :
    ∀ (f : Nat) (L : Array Bool) (a : Act) (w : World), Closed md ops L →
      (∀ j oj, ops[j]? = some oj → j ≠ i → L.getD j true = false → (∀ e ∈ oj.after, Region.binds md e = true → e.on ≠ i) → oi.apart ops oj = true) →
      i ∈ Region.ready md ops L → YieldsIf P ops S oi v a → S w →
      wpAnyD P md ops Q S dep f (L.setIfInBounds i true) (a.put oi.dst v) w → wpAnyD P md ops Q S dep (f + 1) L a w := by
  intro f
  induction f with
  | zero =>
    intro L a w _ _ hr hy hS H
    refine ⟨fun h => (by rw [h] at hr; cases hr), fun j hj => ?_⟩
    by_cases hji : j = i
    · subst hji
      exact ⟨fun e => (by rw [hd] at e; cases e), fun _ => hy.wpOp hi hS ⟨hS, H⟩⟩
    · have := ready_mono hj hji
      rw [H.1] at this
      cases this
  | succ f ih =>
    intro L a w hc hfree hr hy hS H
    have hun := (mem_ready.1 hr).1
    refine ⟨fun h => (by rw [h] at hr; cases hr), fun j hj => ?_⟩
    by_cases hji : j = i
    · subst hji
      exact ⟨fun e => (by rw [hd] at e; cases e), fun _ => hy.wpOp hi hS ⟨hS, H⟩⟩
    · obtain ⟨hjun, oj, hoj, hall⟩ := mem_ready.1 hj
      have hjs : j < ops.size := (Array.getElem?_eq_some_iff.1 hoj).1
      have hul : ¬ L.getD i false = true := fun h1 => by
        rcases Nat.lt_or_ge i L.size with h' | h'
        · simp [h'] at hun h1; rw [hun] at h1; cases h1
        · simp [Array.getElem?_eq_none h'] at h1
      refine ⟨fun e => absurd (needs_spec hc K j i oj hoj (hn j hjs e) hall) hul, fun e => ?_⟩
      have h1 := (H.2 j (ready_mono hj hji)).2 e
      have hnot : ∀ e ∈ oj.after, Region.binds md e = true → e.on ≠ i := fun e he hb heq => hul (by rw [← heq]; exact hall e he hb)
      have h2 := wpOp_putIf hoj (hfree j oj hoj hji hjun hnot) (fun cs b => hsel i oi cs b hi) (fun cs b => hsel j oj cs b hoj) hQ hy h1
      have hfree' : ∀ k ok, ops[k]? = some ok → k ≠ i → (L.setIfInBounds j true).getD k true = false →
          (∀ e ∈ ok.after, Region.binds md e = true → e.on ≠ i) → oi.apart ops ok = true := fun k ok hk hki hun hno => by
        refine hfree k ok hk hki ?_ hno
        by_cases hjk : j = k
        · subst hjk; exact hjun
        · rw [getD_set_ne true hjk] at hun; exact hun
      refine wpOp_mono (fun a' w' h3 => ⟨h3.2.1, ih (L.setIfInBounds j true) a' w' (hc.set hj) hfree' (ready_mono hr (Ne.symm hji)) h3.1 h3.2.1 ?_⟩) h2
      rw [Array.setIfInBounds_comm _ _ hji]
      exact h3.2.2
/-- The check of a take. -/
def takeB (md : Region.Mode) (ops : Array Oper) (dep : Nat → Bool) (L : Array Bool) (i : Nat) : Bool :=
  Region.noSelect ops && Region.free md ops L i && (Region.ready md ops L).contains i && closedB md ops L && !dep i && (List.range ops.size).all fun j => !dep j || needs md ops ops.size j i
theorem wpAnyD_take {i : Nat} {oi : Oper} {v : Value} {f : Nat} {L : Array Bool} {a : Act} {w : World} (hi : ops[i]? = some oi) (hB : takeB md ops dep L i = true)
    (hQ : ∀ c a w, Q (.panic c) (a.put oi.dst v) w → Q (.panic c) a w) (hy : YieldsIf P ops S oi v a) (hS : S w)
    (h : wpAnyD P md ops Q S dep f (L.setIfInBounds i true) (a.put oi.dst v) w) : wpAnyD P md ops Q S dep (f + 1) L a w := by
  simp only [takeB, Bool.and_eq_true, Bool.not_eq_true'] at hB
  obtain ⟨⟨⟨⟨⟨h1, h2⟩, h3⟩, h4⟩, h5⟩, h6⟩ := hB
  refine wpAnyD_first (K := ops.size) hi (Region.noSelect_spec h1) hQ h5 (fun j hj hd => ?_) f L a w (closed_of h4) (Region.free_spec hi h2) (by simpa using h3) hy hS h
  have := List.all_eq_true.1 h6 j (List.mem_range.2 hj)
  rw [hd] at this
  simpa using this
theorem wpOp_alone {j : Nat} {o : Oper} {K : Act → World → Prop} {a : Act} {w : World} (hi : ops[j]? = some o) (hg : o.guard = none) (h : o.wp P a w K Q) : wpOp P ops Q j K a w := by
  unfold wpOp
  have hw : Region.wanted o (yielded ops a.tmps) = true := by simp [Region.wanted, hg]
  simp only [hi, hw, if_true]
  exact .inl h
/-- One alone may come up. -/
theorem wpAnyD_one {j : Nat} {o : Oper} {f : Nat} {L : Array Bool} {a : Act} {w : World} (hr : Region.ready md ops L = [j]) (hd : dep j = false) (hi : ops[j]? = some o) (hg : o.guard = none)
    (h : ∀ K : Act → World → Prop, Hid (∀ a' w', S w' → wpAnyD P md ops Q S dep f (L.setIfInBounds j true) a' w' → K a' w') → o.wp P a w K Q) : wpAnyD P md ops Q S dep (f + 1) L a w :=
  ⟨fun h0 => (by rw [hr] at h0; cases h0), fun k hk => by
    obtain rfl : k = j := by rw [hr] at hk; simpa using hk
    exact ⟨fun e => (by rw [hd] at e; cases e), fun _ => wpOp_alone hi hg (h _ (Lib.hid fun _ _ h1 h2 => ⟨h1, h2⟩))⟩⟩
/-- One of 'dep' comes up alone: from here on no condition is held. -/
theorem wpAnyD_dep {j : Nat} {o : Oper} {f : Nat} {L : Array Bool} {a : Act} {w : World} (hr : Region.ready md ops L = [j]) (hd : dep j = true) (hi : ops[j]? = some o) (hg : o.guard = none)
    (h : ∀ K : Act → World → Prop, Hid (∀ a' w', wpAny P md ops Q f (L.setIfInBounds j true) a' w' → K a' w') → o.wp P a w K Q) : wpAnyD P md ops Q S dep (f + 1) L a w :=
  ⟨fun h0 => (by rw [hr] at h0; cases h0), fun k hk => by
    obtain rfl : k = j := by rw [hr] at hk; simpa using hk
    exact ⟨fun _ => wpOp_alone hi hg (h _ (Lib.hid fun _ _ h1 => h1)), fun e => (by rw [hd] at e; cases e)⟩⟩
theorem wpAny_one {j : Nat} {o : Oper} {f : Nat} {L : Array Bool} {a : Act} {w : World} (hr : Region.ready md ops L = [j]) (hi : ops[j]? = some o) (hg : o.guard = none)
    (h : ∀ K : Act → World → Prop, Hid (∀ a' w', wpAny P md ops Q f (L.setIfInBounds j true) a' w' → K a' w') → o.wp P a w K Q) : wpAny P md ops Q (f + 1) L a w :=
  ⟨fun h0 => (by rw [hr] at h0; cases h0), fun k hk => by
    obtain rfl : k = j := by rw [hr] at hk; simpa using hk
    exact wpOp_alone hi hg (h _ (Lib.hid fun _ _ h1 => h1))⟩
/-- The beginning. -/
theorem wp_region_D {id : Nat} {a : Act} {w : World} (dep : Nat → Bool) (S : World → Prop) (hm : P.follows .mixedOrders = true)
    (h : wpAnyD P .any ops Q S dep ops.size (Array.replicate ops.size false) a w.drew) : (Code.region id ops true).wp P Q a w :=
  wp_region_any hm (wpAny_of_D _ _ _ _ h)
end
end Go.Proofs.YtjninegpaoblfaaGreatDoor.RegD
