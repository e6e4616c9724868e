/- A region that draws its order, in a round of a range over a function: from what the plain walk asks. Of no program. Conditions: no defer in the region; the end isn't let out. -/
import Derived.RangeFuncCalls
import Derived.OrdersIn
import Derived.StillTail
import Derived.Lib.QuietBelow
namespace Go.Proofs.YtjninegpaoblfaaGreatDoor.HpRound
open Go

/-- One way out, into a class of worlds. -/
def onlyS (C : Act → World → Prop) : Exit → Act → World → Prop
  | .normal, a, w => C a w
  | _, _, _ => False
theorem onlyS_lets {C : Act → World → Prop} : ¬ LetsOut (onlyS C) := fun ⟨_, _, h⟩ => h
def noDefer (o : Oper) : Bool := match o.op with | .defer _ => false | _ => true
theorem noDefer_all {l : List Oper} (h : l.all noDefer = true) : ∀ o ∈ l, ∀ c, o.op ≠ .defer c := fun o ho c e => by
  have := List.all_eq_true.1 h o ho
  unfold noDefer at this
  rw [e] at this
  cases this
section
variable {P : Program} {ops : Array Oper} {Q : Exit → Act → World → Prop} {md : Region.Mode} {r n : Nat}
theorem rows_round {row : String} {args : Array Value} {w : World} {R : Value → World → Prop} (h : Rows P row args w R) : RowsIn (Fence.wide.inRound r) n P row args w R := by
  intro c cs _
  obtain ⟨v, w', fr, s⟩ := h c cs
  exact ⟨v, w', fr, (StepsIn.of_steps s).mono fun m _ => fenced_wide P m⟩
theorem upon_round {o : Oper} {a : Act} {next : Act → World → Prop} (x : Result Next) (h : o.upon P a next Q x) : o.uponIn (Fence.wide.inRound r) n P a next Q x := by
  cases x with
  | ok nx w' =>
    cases nx <;> first
      | exact h
      | exact ⟨fun e => (by cases e), CallsIn.inRound r (callsIn_wide.2 h)⟩
      | exact ⟨fun e => (by cases e), rows_round h⟩
      | exact h.elim
  | halt hx w' => cases hx <;> first | exact h | exact h.elim
theorem op_round {i : Nat} {K : Act → World → Prop} {a : Act} {w : World} (hd : ∀ o ∈ ops.toList, ∀ c, o.op ≠ .defer c) (hq : ¬ LetsOut Q) (h : wpOp P ops Q i K a w) : wpOpIn (Fence.wide.inRound r) n P ops Q i K a w := by
  unfold wpOp at h
  unfold wpOpIn
  cases ho : ops[i]? with
  | none => rw [ho] at h; exact h
  | some o =>
    rw [ho] at h
    simp only at h ⊢
    split at h
    · rename_i hw
      rw [if_pos hw]
      rcases h with h | ⟨_, h⟩
      · refine ⟨fun _ _ => trivial, ?_⟩
        have hm : o ∈ ops.toList := by
          obtain ⟨hi, e⟩ := Array.getElem?_eq_some_iff.1 ho
          rw [← e]
          simp
        rw [Oper.semAt_eq _ _ _ (hd o hm)]
        exact upon_round _ h
      · exact absurd h hq
    · rename_i hw
      rw [if_neg hw]
      exact ⟨fun _ _ => trivial, h⟩
theorem any_round (hd : ∀ o ∈ ops.toList, ∀ c, o.op ≠ .defer c) (hq : ¬ LetsOut Q) : ∀ (fuel : Nat) (listed : Array Bool) (a : Act) (w : World), wpAny P md ops Q fuel listed a w → wpAnyIn (Fence.wide.inRound r) n P md ops Q fuel listed a w
  | 0, _, _, _, h => h
  | fuel + 1, _listed, _a, _w, h => ⟨h.1, fun i hi => op_round hd hq (wpOp_mono (fun a' w' h' => any_round hd hq fuel _ a' w' h') (h.2 i hi))⟩
/-- A region whose first n0 operations only read, the others one behind another. -/
theorem round_tail {id : Nat} {a : Act} {w : World} {l : List Oper} (n0 : Nat) (hm : P.follows .mixedOrders = true) (hd : ∀ o ∈ l, ∀ c, o.op ≠ .defer c) (hq : ¬ LetsOut Q) (hB : Region.lexTailB .any l.toArray n0 = true)
    (h : wpStill P l.toArray w.drew (fun a' => wpList P l.toArray Q (l.drop n0) a' w.drew) (l.take n0) a) : (Code.region id l.toArray true).wpIn (Fence.wide.inRound r) n P Q a w := by
  refine wpIn_region_any hm (any_round hd hq _ _ _ _ ?_)
  unfold Region.lexTailB at hB
  rw [Bool.and_eq_true, Bool.and_eq_true, Bool.and_eq_true, Bool.and_eq_true, decide_eq_true_eq] at hB
  have hlt : n0 < l.length := by have := hB.1.1.1.2; simpa using this
  have e1 : (l.take n0).length = n0 := List.length_take_of_le (Nat.le_of_lt hlt)
  have e2 : (l.drop n0).length = l.toArray.size - n0 := by rw [List.length_drop]; rfl
  have hi : HeadInv .any l.toArray n0 (Array.replicate l.toArray.size false) := by
    refine ⟨by simp, fun j oj _ hl => ?_, fun t _ ht => ?_⟩
    · simp [Array.getD] at hl
    · have ht' : t < l.length := ht
      simp [Array.getD, ht']
  have hhead := wpAnyL_lex hB.1.1.1.1 hB.1.1.2 hB.1.2 hB.1.1.1.2 (l.take n0) 0 _ a (fun j hj => by
    rw [e1] at hj
    simp [hj]) (by rw [e1]; omega) hi (by rw [e1]; exact hB.2) h
  have hall := wpAny_of_head (Q' := Q) (g := l.toArray.size - n0) (fun listed a' hL => e2 ▸ wpAny_of_seq (Q' := Q) (l.drop n0) n0 listed a' w.drew (fun j => by simp [List.getElem?_drop]) (e2.symm ▸ hL.1) hL.2) _ _ _ hhead
  rw [e1, Nat.add_sub_cancel' (Nat.le_of_lt hB.1.1.1.2)] at hall
  exact hall
/-- A region that only reads but for new blocks. -/
theorem round_quiet {id : Nat} {a : Act} {w : World} {l : List Oper} (hm : P.follows .mixedOrders = true) (hd : ∀ o ∈ l, ∀ c, o.op ≠ .defer c) (hq : ¬ LetsOut Q) (hB : Region.lexB .any l.toArray = true)
    (h : wpQuiet P l.toArray (fun w' => ∃ p : Regrown, w' = Sort.grow (redrawn w p.d) p.os) (fun a' => ∀ w', (∃ p : Regrown, w' = Sort.grow (redrawn w p.d) p.os) → Q .normal a' w') l a) : (Code.region id l.toArray true).wpIn (Fence.wide.inRound r) n P Q a w := by
  refine wpIn_region_any hm (any_round hd hq _ _ _ _ ?_)
  unfold Region.lexB at hB
  rw [Bool.and_eq_true] at hB
  refine wpAny_of_quiet (C := fun w' => ∃ p : Regrown, w' = Sort.grow (redrawn w p.d) p.os) (Q := fun a' => ∀ w', (∃ p : Regrown, w' = Sort.grow (redrawn w p.d) p.os) → Q .normal a' w') (fun _ w' hw h => h w' hw) _ _ _ _ ⟨⟨w.drawn + 1, #[]⟩, by rw [Sort.grow_empty]; rfl⟩ ?_
  exact wpAnyQ_lex hB.1 l 0 _ a (fun j => by simp) hB.2 h
end
end Go.Proofs.YtjninegpaoblfaaGreatDoor.HpRound
