/- A region that draws its order, in which a condition on the world is held up to the operations that wait for a load of what is written at the end ('x.f = append(x.f, g(..))'): 'wpAnyD'. Of no program. No conditions. · A region that draws its order, in a round of a range over a function: from what the plain walk asks. Of no program. Conditions: no defer in the region; the end isn't let out. · The row's last step where of the world behind the call it is known that all that was there is as it was ('Below'). No conditions. -/
import Derived.OrdersHeld
import Derived.Lib.Hide
import Derived.RangeFuncCalls
import Derived.OrdersIn
import Derived.StillTail
import Derived.Lib.QuietBelow
import Derived.Below
import Derived.ChangeSame
namespace Go.Proofs.Ytdmbgjpidlllcaa.RegD
open Go Go.RowKit

section
variable {P : Program} {md : Region.Mode} {ops : Array Oper} {Q : Exit → Act → World → Prop} {S : World → Prop} {dep : Nat → Bool}
/-- j waits for i, by way of others or at once. -/
def needs (md : Region.Mode) (ops : Array Oper) : Nat → Nat → Nat → Bool
  | 0, _, _ => false
  | f + 1, j, i => match ops[j]? with
    | some o => o.after.any fun e => Region.binds md e && (e.on == i || needs md ops f e.on i)
    | none => false
/-- What has come up had all that it waits for ahead of it. -/
def Closed (md : Region.Mode) (ops : Array Oper) (L : Array Bool) : Prop := ∀ j o, ops[j]? = some o → L.getD j false = true → ∀ e ∈ o.after, Region.binds md e = true → L.getD e.on false = true
def closedB (md : Region.Mode) (ops : Array Oper) (L : Array Bool) : Bool := (List.range ops.size).all fun j => !L.getD j false || match ops[j]? with
  | some o => o.after.all fun e => !Region.binds md e || L.getD e.on false
  | none => true
theorem closed_of {L : Array Bool} (h : closedB md ops L = true) : Closed md ops L := by
  intro j o ho hl e he hb
  have hj : j < ops.size := (Array.getElem?_eq_some_iff.1 ho).1
  have h1 := List.all_eq_true.1 h j (List.mem_range.2 hj)
  rw [hl, ho] at h1
  simp only [Bool.not_true, Bool.false_or] at h1
  have h2 := Array.all_eq_true_iff_forall_mem.1 h1 e he
  rw [hb] at h2
  simpa using h2
theorem Closed.set {L : Array Bool} (hc : Closed md ops L) {i : Nat} (hi : i ∈ Region.ready md ops L) : Closed md ops (L.setIfInBounds i true) := by
  obtain ⟨_, oi, hoi, hall⟩ := mem_ready.1 hi
  intro j o ho hl e he hb
  by_cases hij : i = j
  · subst hij
    obtain rfl : o = oi := Option.some.inj (ho.symm.trans hoi)
    exact getD_set_true (hall e he hb)
  · rw [getD_set_ne false hij] at hl
    exact getD_set_true (hc j o ho hl e he hb)
theorem needs_spec {L : Array Bool} (hc : Closed md ops L) : ∀ (f j i : Nat) (o : Oper), ops[j]? = some o → needs md ops f j i = true → (∀ e ∈ o.after, Region.binds md e = true → L.getD e.on false = true) → L.getD i false = true
  | 0, _, _, _, _, h, _ => by cases h
  | f + 1, j, i, o, ho, h, hall => by
    rw [needs, ho] at h
    obtain ⟨e, he, hb⟩ := Array.any_eq_true'.1 h
    simp only [Bool.and_eq_true, Bool.or_eq_true, beq_iff_eq] at hb
    have h1 := hall e he hb.1
    rcases hb.2 with h2 | h2
    · rw [← h2]; exact h1
    · cases hk : ops[e.on]? with
      | none =>
        cases f with
        | zero => cases h2
        | succ f => rw [needs, hk] at h2; cases h2
      | some o2 => exact needs_spec hc f e.on i o2 hk h2 fun e' he' hb' => hc e.on o2 hk h1 e' he' hb'

/-- Whatever order is picked from here on; S holds behind every operation that is none of 'dep', as long as none of those has come up. -/
def wpAnyD (P : Program) (md : Region.Mode) (ops : Array Oper) (Q : Exit → Act → World → Prop) (S : World → Prop) (dep : Nat → Bool) : Nat → Array Bool → Act → World → Prop
  | 0, L, a, w => Region.ready md ops L = [] ∧ Q .normal a w
  | f + 1, L, a, w => (Region.ready md ops L = [] → Q .normal a w) ∧
    ∀ j ∈ Region.ready md ops L, (dep j = true → wpOp P ops Q j (wpAny P md ops Q f (L.setIfInBounds j true)) a w) ∧
      (dep j = false → wpOp P ops Q j (fun a' w' => S w' ∧ wpAnyD P md ops Q S dep f (L.setIfInBounds j true) a' w') a w)
theorem wpAny_of_D : ∀ (f : Nat) (L : Array Bool) (a : Act) (w : World), wpAnyD P md ops Q S dep f L a w → wpAny P md ops Q f L a w
  | 0, _, _, _, h => h
  | f + 1, _, _, _, h => ⟨h.1, fun j hj => by
    cases e : dep j with
    | true => exact (h.2 j hj).1 e
    | false => exact wpOp_mono (fun a' w' h' => wpAny_of_D f _ a' w' h'.2) ((h.2 j hj).2 e)⟩
theorem wpAnyD_first {K i : Nat} {oi : Oper} {v : Value} (hi : ops[i]? = some oi) (hsel : ∀ (j : Nat) (o : Oper) cs b, ops[j]? = some o → o.op ≠ .select cs b)
    (hQ : ∀ c a w, Q (.panic c) (a.put oi.dst v) w → Q (.panic c) a w) (hd : dep i = false) (hn : ∀ j, j < ops.size → dep j = true → needs md ops K j i = true) :
    ∀ (f : Nat) (L : Array Bool) (a : Act) (w : World), Closed md ops L →
      (∀ j oj, ops[j]? = some oj → j ≠ i → L.getD j true = false → (∀ e ∈ oj.after, Region.binds md e = true → e.on ≠ i) → oi.apart ops oj = true) →
      i ∈ Region.ready md ops L → YieldsIf P ops S oi v a → S w →
      wpAnyD P md ops Q S dep f (L.setIfInBounds i true) (a.put oi.dst v) w → wpAnyD P md ops Q S dep (f + 1) L a w := by
  intro f
  induction f with
  | zero =>
    intro L a w _ _ hr hy hS H
    refine ⟨fun h => (by rw [h] at hr; cases hr), fun j hj => ?_⟩
    by_cases hji : j = i
    · subst hji
      exact ⟨fun e => (by rw [hd] at e; cases e), fun _ => hy.wpOp hi hS ⟨hS, H⟩⟩
    · have := ready_mono hj hji
      rw [H.1] at this
      cases this
  | succ f ih =>
    intro L a w hc hfree hr hy hS H
    have hun := (mem_ready.1 hr).1
    refine ⟨fun h => (by rw [h] at hr; cases hr), fun j hj => ?_⟩
    by_cases hji : j = i
    · subst hji
      exact ⟨fun e => (by rw [hd] at e; cases e), fun _ => hy.wpOp hi hS ⟨hS, H⟩⟩
    · obtain ⟨hjun, oj, hoj, hall⟩ := mem_ready.1 hj
      have hjs : j < ops.size := (Array.getElem?_eq_some_iff.1 hoj).1
      have hul : ¬ L.getD i false = true := fun h1 => by
        rcases Nat.lt_or_ge i L.size with h' | h'
        · simp [h'] at hun h1; rw [hun] at h1; cases h1
        · simp [Array.getElem?_eq_none h'] at h1
      refine ⟨fun e => absurd (needs_spec hc K j i oj hoj (hn j hjs e) hall) hul, fun e => ?_⟩
      have h1 := (H.2 j (ready_mono hj hji)).2 e
      have hnot : ∀ e ∈ oj.after, Region.binds md e = true → e.on ≠ i := fun e he hb heq => hul (by rw [← heq]; exact hall e he hb)
      have h2 := wpOp_putIf hoj (hfree j oj hoj hji hjun hnot) (fun cs b => hsel i oi cs b hi) (fun cs b => hsel j oj cs b hoj) hQ hy h1
      have hfree' : ∀ k ok, ops[k]? = some ok → k ≠ i → (L.setIfInBounds j true).getD k true = false →
          (∀ e ∈ ok.after, Region.binds md e = true → e.on ≠ i) → oi.apart ops ok = true := fun k ok hk hki hun hno => by
        refine hfree k ok hk hki ?_ hno
        by_cases hjk : j = k
        · subst hjk; exact hjun
        · rw [getD_set_ne true hjk] at hun; exact hun
      refine wpOp_mono (fun a' w' h3 => ⟨h3.2.1, ih (L.setIfInBounds j true) a' w' (hc.set hj) hfree' (ready_mono hr (Ne.symm hji)) h3.1 h3.2.1 ?_⟩) h2
      rw [Array.setIfInBounds_comm _ _ hji]
      exact h3.2.2
/-- The check of a take. -/
def takeB (md : Region.Mode) (ops : Array Oper) (dep : Nat → Bool) (L : Array Bool) (i : Nat) : Bool :=
  Region.noSelect ops && Region.free md ops L i && (Region.ready md ops L).contains i && closedB md ops L && !dep i && (List.range ops.size).all fun j => !dep j || needs md ops ops.size j i
theorem wpAnyD_take {i : Nat} {oi : Oper} {v : Value} {f : Nat} {L : Array Bool} {a : Act} {w : World} (hi : ops[i]? = some oi) (hB : takeB md ops dep L i = true)
    (hQ : ∀ c a w, Q (.panic c) (a.put oi.dst v) w → Q (.panic c) a w) (hy : YieldsIf P ops S oi v a) (hS : S w)
    (h : wpAnyD P md ops Q S dep f (L.setIfInBounds i true) (a.put oi.dst v) w) : wpAnyD P md ops Q S dep (f + 1) L a w := by
  simp only [takeB, Bool.and_eq_true, Bool.not_eq_true'] at hB
  obtain ⟨⟨⟨⟨⟨h1, h2⟩, h3⟩, h4⟩, h5⟩, h6⟩ := hB
  refine wpAnyD_first (K := ops.size) hi (Region.noSelect_spec h1) hQ h5 (fun j hj hd => ?_) f L a w (closed_of h4) (Region.free_spec hi h2) (by simpa using h3) hy hS h
  have := List.all_eq_true.1 h6 j (List.mem_range.2 hj)
  rw [hd] at this
  simpa using this
theorem wpOp_alone {j : Nat} {o : Oper} {K : Act → World → Prop} {a : Act} {w : World} (hi : ops[j]? = some o) (hg : o.guard = none) (h : o.wp P a w K Q) : wpOp P ops Q j K a w := by
  unfold wpOp
  have hw : Region.wanted o (yielded ops a.tmps) = true := by simp [Region.wanted, hg]
  simp only [hi, hw, if_true]
  exact .inl h
/-- One alone may come up. -/
theorem wpAnyD_one {j : Nat} {o : Oper} {f : Nat} {L : Array Bool} {a : Act} {w : World} (hr : Region.ready md ops L = [j]) (hd : dep j = false) (hi : ops[j]? = some o) (hg : o.guard = none)
    (h : ∀ K : Act → World → Prop, Hid (∀ a' w', S w' → wpAnyD P md ops Q S dep f (L.setIfInBounds j true) a' w' → K a' w') → o.wp P a w K Q) : wpAnyD P md ops Q S dep (f + 1) L a w :=
  ⟨fun h0 => (by rw [hr] at h0; cases h0), fun k hk => by
    obtain rfl : k = j := by rw [hr] at hk; simpa using hk
    exact ⟨fun e => (by rw [hd] at e; cases e), fun _ => wpOp_alone hi hg (h _ (Lib.hid fun _ _ h1 h2 => ⟨h1, h2⟩))⟩⟩
/-- One of 'dep' comes up alone: from here on no condition is held. -/
theorem wpAnyD_dep {j : Nat} {o : Oper} {f : Nat} {L : Array Bool} {a : Act} {w : World} (hr : Region.ready md ops L = [j]) (hd : dep j = true) (hi : ops[j]? = some o) (hg : o.guard = none)
    (h : ∀ K : Act → World → Prop, Hid (∀ a' w', wpAny P md ops Q f (L.setIfInBounds j true) a' w' → K a' w') → o.wp P a w K Q) : wpAnyD P md ops Q S dep (f + 1) L a w :=
  ⟨fun h0 => (by rw [hr] at h0; cases h0), fun k hk => by
    obtain rfl : k = j := by rw [hr] at hk; simpa using hk
    exact ⟨fun _ => wpOp_alone hi hg (h _ (Lib.hid fun _ _ h1 => h1)), fun e => (by rw [hd] at e; cases e)⟩⟩
theorem wpAny_one {j : Nat} {o : Oper} {f : Nat} {L : Array Bool} {a : Act} {w : World} (hr : Region.ready md ops L = [j]) (hi : ops[j]? = some o) (hg : o.guard = none)
    (h : ∀ K : Act → World → Prop, Hid (∀ a' w', wpAny P md ops Q f (L.setIfInBounds j true) a' w' → K a' w') → o.wp P a w K Q) : wpAny P md ops Q (f + 1) L a w :=
  ⟨fun h0 => (by rw [hr] at h0; cases h0), fun k hk => by
    obtain rfl : k = j := by rw [hr] at hk; simpa using hk
    exact wpOp_alone hi hg (h _ (Lib.hid fun _ _ h1 => h1))⟩
/-- The beginning. -/
theorem wp_region_D {id : Nat} {a : Act} {w : World} (dep : Nat → Bool) (S : World → Prop) (hm : P.follows .mixedOrders = true)
    (h : wpAnyD P .any ops Q S dep ops.size (Array.replicate ops.size false) a w.drew) : (Code.region id ops true).wp P Q a w :=
  wp_region_any hm (wpAny_of_D _ _ _ _ h)
end
end Go.Proofs.Ytdmbgjpidlllcaa.RegD

namespace Go.Proofs.Ytdmbgjpidlllcaa.HpRound
open Go

/-- One way out, into a class of worlds. -/
def onlyS (C : Act → World → Prop) : Exit → Act → World → Prop
  | .normal, a, w => C a w
  | _, _, _ => False
theorem onlyS_lets {C : Act → World → Prop} : ¬ LetsOut (onlyS C) := fun ⟨_, _, h⟩ => h
def noDefer (o : Oper) : Bool := match o.op with | .defer _ => false | _ => true
theorem noDefer_all {l : List Oper} (h : l.all noDefer = true) : ∀ o ∈ l, ∀ c, o.op ≠ .defer c := fun o ho c e => by
  have := List.all_eq_true.1 h o ho
  unfold noDefer at this
  rw [e] at this
  cases this
section
variable {P : Program} {ops : Array Oper} {Q : Exit → Act → World → Prop} {md : Region.Mode} {r n : Nat}
theorem rows_round {row : String} {args : Array Value} {w : World} {R : Value → World → Prop} (h : Rows P row args w R) : RowsIn (Fence.wide.inRound r) n P row args w R := by
  intro c cs _
  obtain ⟨v, w', fr, s⟩ := h c cs
  exact ⟨v, w', fr, (StepsIn.of_steps s).mono fun m _ => fenced_wide P m⟩
theorem upon_round {o : Oper} {a : Act} {next : Act → World → Prop} (x : Result Next) (h : o.upon P a next Q x) : o.uponIn (Fence.wide.inRound r) n P a next Q x := by
  cases x with
  | ok nx w' =>
    cases nx <;> first
      | exact h
      | exact ⟨fun e => (by cases e), CallsIn.inRound r (callsIn_wide.2 h)⟩
      | exact ⟨fun e => (by cases e), rows_round h⟩
      | exact h.elim
  | halt hx w' => cases hx <;> first | exact h | exact h.elim
theorem op_round {i : Nat} {K : Act → World → Prop} {a : Act} {w : World} (hd : ∀ o ∈ ops.toList, ∀ c, o.op ≠ .defer c) (hq : ¬ LetsOut Q) (h : wpOp P ops Q i K a w) : wpOpIn (Fence.wide.inRound r) n P ops Q i K a w := by
  unfold wpOp at h
  unfold wpOpIn
  cases ho : ops[i]? with
  | none => rw [ho] at h; exact h
  | some o =>
    rw [ho] at h
    simp only at h ⊢
    split at h
    · rename_i hw
      rw [if_pos hw]
      rcases h with h | ⟨_, h⟩
      · refine ⟨fun _ _ => trivial, ?_⟩
        have hm : o ∈ ops.toList := by
          obtain ⟨hi, e⟩ := Array.getElem?_eq_some_iff.1 ho
          rw [← e]
          simp
        rw [Oper.semAt_eq _ _ _ (hd o hm)]
        exact upon_round _ h
      · exact absurd h hq
    · rename_i hw
      rw [if_neg hw]
      exact ⟨fun _ _ => trivial, h⟩
theorem any_round (hd : ∀ o ∈ ops.toList, ∀ c, o.op ≠ .defer c) (hq : ¬ LetsOut Q) : ∀ (fuel : Nat) (listed : Array Bool) (a : Act) (w : World), wpAny P md ops Q fuel listed a w → wpAnyIn (Fence.wide.inRound r) n P md ops Q fuel listed a w
  | 0, _, _, _, h => h
  | fuel + 1, _listed, _a, _w, h => ⟨h.1, fun i hi => op_round hd hq (wpOp_mono (fun a' w' h' => any_round hd hq fuel _ a' w' h') (h.2 i hi))⟩
/-- A region whose first n0 operations only read, the others one behind another. -/
theorem round_tail {id : Nat} {a : Act} {w : World} {l : List Oper} (n0 : Nat) (hm : P.follows .mixedOrders = true) (hd : ∀ o ∈ l, ∀ c, o.op ≠ .defer c) (hq : ¬ LetsOut Q) (hB : Region.lexTailB .any l.toArray n0 = true)
    (h : wpStill P l.toArray w.drew (fun a' => wpList P l.toArray Q (l.drop n0) a' w.drew) (l.take n0) a) : (Code.region id l.toArray true).wpIn (Fence.wide.inRound r) n P Q a w := by
  refine wpIn_region_any hm (any_round hd hq _ _ _ _ ?_)
  unfold Region.lexTailB at hB
  rw [Bool.and_eq_true, Bool.and_eq_true, Bool.and_eq_true, Bool.and_eq_true, decide_eq_true_eq] at hB
  have hlt : n0 < l.length := by have := hB.1.1.1.2; simpa using this
  have e1 : (l.take n0).length = n0 := List.length_take_of_le (Nat.le_of_lt hlt)
  have e2 : (l.drop n0).length = l.toArray.size - n0 := by rw [List.length_drop]; rfl
  have hi : HeadInv .any l.toArray n0 (Array.replicate l.toArray.size false) := by
    refine ⟨by simp, fun j oj _ hl => ?_, fun t _ ht => ?_⟩
    · simp [Array.getD] at hl
    · have ht' : t < l.length := ht
      simp [Array.getD, ht']
  have hhead := wpAnyL_lex hB.1.1.1.1 hB.1.1.2 hB.1.2 hB.1.1.1.2 (l.take n0) 0 _ a (fun j hj => by
    rw [e1] at hj
    simp [hj]) (by rw [e1]; omega) hi (by rw [e1]; exact hB.2) h
  have hall := wpAny_of_head (Q' := Q) (g := l.toArray.size - n0) (fun listed a' hL => e2 ▸ wpAny_of_seq (Q' := Q) (l.drop n0) n0 listed a' w.drew (fun j => by simp [List.getElem?_drop]) (e2.symm ▸ hL.1) hL.2) _ _ _ hhead
  rw [e1, Nat.add_sub_cancel' (Nat.le_of_lt hB.1.1.1.2)] at hall
  exact hall
/-- A region that only reads but for new blocks. -/
theorem round_quiet {id : Nat} {a : Act} {w : World} {l : List Oper} (hm : P.follows .mixedOrders = true) (hd : ∀ o ∈ l, ∀ c, o.op ≠ .defer c) (hq : ¬ LetsOut Q) (hB : Region.lexB .any l.toArray = true)
    (h : wpQuiet P l.toArray (fun w' => ∃ p : Regrown, w' = Sort.grow (redrawn w p.d) p.os) (fun a' => ∀ w', (∃ p : Regrown, w' = Sort.grow (redrawn w p.d) p.os) → Q .normal a' w') l a) : (Code.region id l.toArray true).wpIn (Fence.wide.inRound r) n P Q a w := by
  refine wpIn_region_any hm (any_round hd hq _ _ _ _ ?_)
  unfold Region.lexB at hB
  rw [Bool.and_eq_true] at hB
  refine wpAny_of_quiet (C := fun w' => ∃ p : Regrown, w' = Sort.grow (redrawn w p.d) p.os) (Q := fun a' => ∀ w', (∃ p : Regrown, w' = Sort.grow (redrawn w p.d) p.os) → Q .normal a' w') (fun _ w' hw h => h w' hw) _ _ _ _ ⟨⟨w.drawn + 1, #[]⟩, by rw [Sort.grow_empty]; rfl⟩ ?_
  exact wpAnyQ_lex hB.1 l 0 _ a (fun j => by simp) hB.2 h
end
end Go.Proofs.Ytdmbgjpidlllcaa.HpRound

namespace Go.Proofs.Ytdmbgjpidlllcaa.Post
open Go Go.RowKit Go.WideShapes Go.ChangeShapes
section
variable {H : Type} {enc : TypeId × Value → H} {P : Program}
theorem post_of_below {f : Func} {s : ChangeSpec} {apart fresh handsOn again : Bool} {W W' : World} {args : Array Value} {v : Value} {ds gs : List (DataW H)} {before pa pv : List MemPlace}
    (hW : DataW.Whole enc P f.params.toList s.vars apart W args.toList ds gs before)
    (hres : ∀ (b : Nat) (sp : Nat → Bool) (hd : Bool), DataW.TrodAll enc P W' b sp hd f.resultTypes.toList (v.resultList f.resultTypes.size) (s.fn H (ds ++ gs)).results [])
    (hargs : ∀ sp : Nat → Bool, (∀ p ∈ before, sp p.block = true) → DataW.TrodAll enc P W' 0 sp true f.params.toList args.toList (s.fn H (ds ++ gs)).args pa)
    (hvars : ∀ sp : Nat → Bool, (∀ p ∈ before, sp p.block = true) → DataW.TrodVars enc P W' sp s.vars (s.fn H (ds ++ gs)).vars pv)
    (hps : before = pa ++ pv) (hb : Below W.heap.size W W')
    (hok : ∀ (j : Nat) (t : TypeId) (r : Value), f.resultTypes[j]? = some t → (v.resultList f.resultTypes.size)[j]? = some r → Value.okWide P W' .any 0 t r) :
    s.post enc P f apart fresh handsOn again W args v W' := by
  have hlt : ∀ p ∈ before, p.block < W.heap.size := fun p hp => hW.lt p hp
  have hold : ∀ p ∈ before, (fun b => decide (b < W.heap.size)) p.block = true := fun p hp => by simpa using hlt p hp
  refine ⟨ds, gs, before, [], pa, pv, hW, hres _ _ _, hargs _ hold, hvars _ hold, World.keptBut_mono (fun p hp => ⟨hp, ?_⟩) (hb.frame (· ∈ before)), fun _ => ?_⟩
  · rw [hps, List.mem_append] at hp
    exact Or.inr hp
  · obtain ⟨_, _, _, _, _, hz, hn⟩ := hW
    refine ⟨hok, _, _, ([] ++ pa) ++ pv, ⟨[] ++ pa, pv, trodAll_append (hargs _ (fun _ _ => rfl)) (hres _ _ _), hvars _ (fun _ _ => rfl), rfl, ?_, ?_⟩, ?_⟩
    · intro b off hp
      have hin : MemPlace.cell b off ∈ before := by rw [hps]; simpa using hp
      rw [hb.frozen (hlt _ hin)]
      exact hz b off hin
    · intro ha
      have := hn ha
      rw [hps] at this
      simpa using this
    · intro p hp _
      rw [hps]
      simpa using hp
end
end Go.Proofs.Ytdmbgjpidlllcaa.Post

