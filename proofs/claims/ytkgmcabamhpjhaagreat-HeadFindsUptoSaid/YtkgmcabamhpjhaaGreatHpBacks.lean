/- slices.Backward over the head's records: its value, and what its iterator hands to a loop's body. Conditions: the slice lies in memory; at most 2^40 records; the body keeps the slice's row and its box. · Plain: what one round of the program's lay does to the row, and what all rounds leave: the batch laid among the records. Of no program. No conditions. · A region that draws its order, in a round of a range over a function: from what the plain walk asks. Of no program. Conditions: no defer in the region; the end isn't let out. -/
import Derived.RangeFuncNested
import Derived.RangeFuncBound
import Derived.RangeFuncCalls
import Derived.RangeFuncLeaves
import Derived.RangeFuncWrites
import Derived.Shelf.Abstract
import Derived.Shelf.RegionOpen
import Derived.WalkKit
import Derived.OwnWalkIn
import Derived.TacticsInMore
import Derived.LoopNIn
import Derived.LoopIn
import Derived.Test.YtkgmcabamhpjhaaGreatHpAlls
import Derived.OrdersIn
import Derived.StillTail
import Derived.Lib.QuietBelow
namespace Go.Proofs.YtkgmcabamhpjhaaGreat.HpBack
open Go Go.RowKit Go.Shelf Words HpSpec HpBox HpMem HpAll RcMem

attribute [local go_sem] Oper.semAt_some

/-- Which record a round is handed: its number among them. -/
abbrev Ix (P : List Pin) := { i : Nat // i < P.length }
def encB (P : List Pin) (x : Ix P) : Array Value := #[.int .i64 (x.1 : Int), ptr (P[x.1]'x.2).1]
/-- What a round keeps: the slice's row and its box. -/
def KpB (Bs : Nat) (A : Option Addr) (W W' : World) : Prop := W'.heap[Bs]? = W.heap[Bs]? ∧ ∀ b off, A = some ⟨b, off, none⟩ → W'.heap[b]? = W.heap[b]?
theorem kpB_t {Bs : Nat} {A : Option Addr} {X Y Z : World} (h : KpB Bs A X Y) (k : KpB Bs A Y Z) : KpB Bs A X Z := ⟨k.1.trans h.1, fun b off e => (k.2 b off e).trans (h.2 b off e)⟩
theorem kpB_refl (Bs : Nat) (A : Option Addr) (X : World) : KpB Bs A X X := ⟨rfl, fun _ _ _ => rfl⟩
/-- The m first rounds' numbers. -/
def upto (k m : Nat) : List Nat := (List.range m).map fun t => k - 1 - t
theorem upto_succ (k m : Nat) : upto k (m + 1) = upto k m ++ [k - 1 - m] := by simp [upto, List.range_succ]
theorem upto_len (k m : Nat) : (upto k m).length = m := by simp [upto]

set_option maxHeartbeats 800000 in
theorem backward_any (w : World) (A : Option Addr) (n c : Nat) : Calls Tryz.prog 55 #[.slice A n c] w fun e w' => e = .returned (.func (.func 88) #[] #[.pointer (some ⟨w.heap.size, 0, none⟩)]) ∧ w' = w.alloc (.cells #[.slice A n c] 57) := by
  go_enter Tryz.func55, Tryz.ntmps55
  go_wp2
  go_ret
  exact ⟨rfl, rfl⟩

set_option maxRecDepth 100000 in
set_option maxHeartbeats 4000000 in
theorem back_stops (F : Fence) (n : Nat) (hF : F.fn 88) (hro : F.round = none) (hn : 1 ≤ n) (Bs c : Nat) (A : Option Addr) (P : List Pin) (hl : P.length ≤ 1099511627776) (w : World)
    (hBs : w.heap[Bs]? = some (.cells #[.slice A P.length c] 57 (0, 0))) (hrow : Rd w w.heap.size A (ptrs P)) :
    SeqStopsK F n Tryz.prog 88 #[.pointer (some ⟨Bs, 0, none⟩)] (encB P) (KpB Bs A) (fun ys => ys.map (·.1) = upto P.length P.length) (fun _ => True) P.length w := by
  intro l J Jx W hW _ _ hY h0
  have hBW := (hW.block Bs (Array.getElem?_eq_some_iff.1 hBs).1).trans hBs
  have hRW : Rd W w.heap.size A (ptrs P) := hrow.below hW
  refine callsIn_of_wp Tryz.func88 rfl hF ?_ hro
  simp only [Tryz.ntmps88, List.size_toArray, List.length_cons, List.length_nil, Nat.reduceAdd, Nat.reduceSub, Array.replicate_succ, Array.replicate_zero, List.push_toArray, List.append_toArray, List.nil_append, List.cons_append]
  have c0 : W.cell? ⟨Bs, 0, none⟩ = some (.slice A P.length c) := HpBox.cell_of_heap hBW rfl
  gi_wp2
  clear c0
  gi_loopw [3] (fun i wr => ∃ (m : Nat) (pre : List (Ix P)), m ≤ P.length ∧ i = .int .i64 ((P.length : Int) - 1 - (m : Int)) ∧ pre.map (·.1) = upto P.length m ∧ J pre wr ∧ KpB Bs A W wr)
    (fun i _ => (intOf i + 1).toNat)
  case atStart => exact ⟨0, [], Nat.zero_le _, by simp, rfl, h0, kpB_refl _ _ _⟩
  case round =>
    obtain ⟨m, pre, hm, rfl, hpre, hJ, hK⟩ := hrel
    have hBr := hK.1.trans hBW
    have c0 : wr.cell? ⟨Bs, 0, none⟩ = some (.slice A P.length c) := HpBox.cell_of_heap hBr rfl
    by_cases hlt : m < P.length
    · obtain ⟨b, off, rfl, hb, hcell⟩ := hRW (by rw [ptrs_len]; omega)
      have hq := hcell (P.length - 1 - m) _ (ptrs_at (by omega))
      have hq2 : wr.cell? ⟨b, off + (P.length - 1 - m), none⟩ = some (ptr (P[P.length - 1 - m]'(by omega)).1) := by
        rw [World.cell?_of_block (a := ⟨b, off + (P.length - 1 - m), none⟩) (hK.2 b off rfl)]
        exact hq
      obtain ⟨fn, tmps, assign, body, hy, hR⟩ := hY pre ⟨P.length - 1 - m, by omega⟩ wr hJ (by
        have := congrArg List.length hpre
        rw [upto_len, List.length_map] at this
        omega)
      unfold encB at hy hR
      obtain ⟨d, hd⟩ : ∃ d, P.length - 1 - m = d := ⟨_, rfl⟩
      have hdi : (P.length : Int) - 1 - (m : Int) = (d : Int) := by omega
      simp only [hd] at hq2 hy hR
      have hd1 : d < P.length := by omega
      have hge : ((d : Int) ≥ 0) := by omega
      have hsub : (d : Int) - 1 = (P.length : Int) - 1 - ((m + 1 : Nat) : Int) := by omega
      have hlc := hl
      rw [hdi]
      unfold ptr at hq2 hy
      gi_wp2
      refine hR.mono ?_
      rintro e W3 (⟨rfl, hJ3, hk3⟩ | ⟨rfl, hJx3⟩)
      · gi_wp2
        go_roundw
        case rel =>
          exact ⟨m + 1, _, by omega, congrArg (Value.int IntKind.i64) (by omega), by rw [List.map_append, hpre, upto_succ]; exact congrArg (fun z => upto P.length m ++ [z]) hd.symm, hJ3, kpB_t hK hk3⟩
        case measure => simp [intOf]; omega
      · gi_wp2
        refine bodyPost_ret (results_none rfl _ _ _) rfl ?_
        exact ⟨⟨_, rfl⟩, .inr ⟨_, trivial, hJx3⟩⟩
    · obtain rfl : m = P.length := by omega
      have hneg : (P.length : Int) - 1 - (P.length : Int) = -1 := by omega
      rw [hneg]
      gi_wp2
      go_end0
      exact ⟨⟨_, rfl⟩, .inl ⟨pre, hpre, hJ⟩⟩
end Go.Proofs.YtkgmcabamhpjhaaGreat.HpBack

namespace Go.Proofs.YtkgmcabamhpjhaaGreat.HpLayP
open Go Words RcMem HpSpec HpBox HpMem HpBack

def stepL (S P : List Pin) (s : Nat × List Value) (a : Nat) : Nat × List Value :=
  (cnt cfP (S.take s.1) (P.getD a none_),
   (s.2.take (cnt cfP (S.take s.1) (P.getD a none_) + a + 1) ++ ((s.2.drop (cnt cfP (S.take s.1) (P.getD a none_))).take (s.1 - cnt cfP (S.take s.1) (P.getD a none_)) ++
      s.2.drop (cnt cfP (S.take s.1) (P.getD a none_) + a + 1 + (s.1 - cnt cfP (S.take s.1) (P.getD a none_))))).set (cnt cfP (S.take s.1) (P.getD a none_) + a) (ptr (P.getD a none_).1))
def runL (S P : List Pin) (s : Nat × List Value) (l : List Nat) : Nat × List Value := l.foldl (stepL S P) s
theorem runL_snoc (S P : List Pin) (s : Nat × List Value) (l : List Nat) (a : Nat) : runL S P s (l ++ [a]) = stepL S P (runL S P s l) a := by unfold runL; rw [List.foldl_append]; rfl
/-- What holds whatever rounds there were. -/
structure Fine (S : List Pin) (k cap : Nat) (s : Nat × List Value) : Prop where
  le : s.1 ≤ S.length
  len : s.2.length = cap
  room : S.length + k ≤ cap
  ahead : s.2.take s.1 = ptrs (S.take s.1)
theorem ptrs_take (l : List Pin) (n : Nat) : (ptrs l).take n = ptrs (l.take n) := by unfold ptrs; rw [List.map_take]
theorem ptrs_append (a b : List Pin) : ptrs (a ++ b) = ptrs a ++ ptrs b := by unfold ptrs; rw [List.map_append]
theorem cut_le {S : List Pin} {n : Nat} {r : Pin} (h : n ≤ S.length) : cnt cfP (S.take n) r ≤ n := by
  have := cnt_le (cf := cfP) (S.take n) r
  rw [List.length_take] at this
  omega
theorem fine_step {S P : List Pin} {cap : Nat} {s : Nat × List Value} {a : Nat} (h : Fine S P.length cap s) (ha : a < P.length) : Fine S P.length cap (stepL S P s a) := by
  obtain ⟨left, cur⟩ := s
  obtain ⟨h1, h2, h3, h4⟩ := h
  simp only at h1 h2 h3 h4
  have hc := cut_le (r := P.getD a none_) h1
  unfold stepL
  simp only
  generalize cnt cfP (S.take left) (P.getD a none_) = c at *
  refine ⟨by simp only; omega, ?_, h3, ?_⟩
  · simp only [List.length_set, List.length_append, List.length_take, List.length_drop]
    omega
  · simp only
    rw [List.take_set_of_le (by omega), List.take_append_of_le_length (by rw [List.length_take]; omega), List.take_take, Nat.min_eq_left (by omega)]
    have h5 := congrArg (List.take c) h4
    rw [List.take_take, Nat.min_eq_left hc, ptrs_take, List.take_take, Nat.min_eq_left hc] at h5
    exact h5
theorem fine_run {S P : List Pin} {cap : Nat} : ∀ (l : List Nat) {s : Nat × List Value}, Fine S P.length cap s → (∀ a ∈ l, a < P.length) → Fine S P.length cap (runL S P s l)
  | [], _, h, _ => h
  | a :: l, s, h, hl => fine_run l (fine_step h (hl a (by simp))) (fun b hb => hl b (by simp [hb]))
/-- One round in its turn. -/
theorem turn {S P : List Pin} {cap left a : Nat} {cur junk : List Value} {suf : List Pin} (h : Fine S P.length cap (left, cur)) (_ha : a < P.length) (hj : junk.length = a + 1)
    (hcur : cur.take (S.length + P.length) = ptrs (S.take left) ++ (junk ++ ptrs suf)) :
    ∃ junk', junk'.length = a ∧ (stepL S P (left, cur) a).2.take (S.length + P.length) = ptrs (S.take (cnt cfP (S.take left) (P.getD a none_))) ++ (junk' ++ ptrs (P.getD a none_ :: ((S.take left).drop (cnt cfP (S.take left) (P.getD a none_)) ++ suf))) := by
  obtain ⟨h1, h2, h3, _⟩ := h
  simp only at h1 h2 h3
  have hc := cut_le (r := P.getD a none_) h1
  unfold stepL
  simp only
  generalize P.getD a none_ = r at *
  generalize cnt cfP (S.take left) r = c at *
  obtain ⟨X1, hX1⟩ : ∃ X1, ptrs (S.take c) = X1 := ⟨_, rfl⟩
  obtain ⟨X2, hX2⟩ : ∃ X2, ptrs ((S.take left).drop c) = X2 := ⟨_, rfl⟩
  have l1 : X1.length = c := by rw [← hX1, ptrs_len, List.length_take]; omega
  have l2 : X2.length = left - c := by rw [← hX2, ptrs_len, List.length_drop, List.length_take]; omega
  have hX : ptrs (S.take left) = X1 ++ X2 := by
    rw [← hX1, ← hX2, ← ptrs_append]
    congr 1
    have e : S.take c = (S.take left).take c := by rw [List.take_take, Nat.min_eq_left hc]
    rw [e, List.take_append_drop]
  have hZ : cur = X1 ++ (X2 ++ (junk ++ (ptrs suf ++ cur.drop (S.length + P.length)))) := by
    conv => lhs; rw [← List.take_append_drop (S.length + P.length) cur, hcur, hX]
    simp only [List.append_assoc]
  obtain ⟨Y, hY⟩ : ∃ Y, ptrs suf = Y := ⟨_, rfl⟩
  obtain ⟨Z, hZZ⟩ : ∃ Z, cur.drop (S.length + P.length) = Z := ⟨_, rfl⟩
  rw [hZZ, hY] at hZ
  have hlenN : (X1 ++ (X2 ++ (junk ++ Y))).length = S.length + P.length := by
    have := congrArg List.length hcur
    rw [hX, hY, List.length_take] at this
    simp only [List.length_append] at this ⊢
    omega
  obtain ⟨U, hU⟩ : ∃ U, X2 ++ junk = U := ⟨_, rfl⟩
  have lU : U.length = left - c + (a + 1) := by rw [← hU, List.length_append, l2, hj]
  have hcurU : cur = X1 ++ (U ++ (Y ++ Z)) := by rw [hZ, ← hU]; simp only [List.append_assoc]
  have hlast : U.take (a + 1) = U.take a ++ [U[a]'(by omega)] := List.take_succ_eq_append_getElem (by omega)
  have t1 : cur.take (c + a + 1) = X1 ++ (U.take a ++ [U[a]'(by omega)]) := by
    rw [hcurU, ← hlast, List.take_append, List.take_of_length_le (by omega), List.take_append_of_le_length (by omega), l1, show c + a + 1 - c = a + 1 by omega]
  have t2 : (cur.drop c).take (left - c) = X2 := by
    rw [hZ, List.drop_left' l1, List.take_left' l2]
  have t3 : cur.drop (c + a + 1 + (left - c)) = Y ++ Z := by
    rw [hcurU, ← List.append_assoc, List.drop_left' (by rw [List.length_append, l1, lU]; omega)]
  refine ⟨U.take a, by rw [List.length_take]; omega, ?_⟩
  rw [t1, t2, t3]
  have e1 : (X1 ++ (U.take a ++ [U[a]'(by omega)]) ++ (X2 ++ (Y ++ Z))).set (c + a) (ptr r.1) = X1 ++ (U.take a ++ ([ptr r.1] ++ (X2 ++ (Y ++ Z)))) := by
    rw [List.append_assoc, List.set_append_right (h := by omega), l1, show c + a - c = a by omega, List.append_assoc, List.set_append_right (h := by rw [List.length_take]; omega), List.length_take, show a - min a U.length = 0 by omega]
    rfl
  rw [e1]
  have e2 : ptrs (r :: ((S.take left).drop c ++ suf)) = [ptr r.1] ++ (X2 ++ Y) := by
    rw [← hX2, ← hY, ← ptrs_append]
    rfl
  rw [e2]
  have e3 : X1 ++ (U.take a ++ ([ptr r.1] ++ (X2 ++ (Y ++ Z)))) = (X1 ++ (U.take a ++ ([ptr r.1] ++ (X2 ++ Y)))) ++ Z := by simp only [List.append_assoc]
  have hl : (X1 ++ (U.take a ++ ([ptr r.1] ++ (X2 ++ Y)))).length = S.length + P.length := by
    simp only [List.length_append, List.length_cons, List.length_nil, List.length_take] at hlenN ⊢
    rw [Nat.min_eq_left (show a ≤ U.length by omega)]
    omega
  rw [e3, List.take_left' hl, hX1]
/-- All rounds up to one, in their order. -/
theorem turns {S P : List Pin} {cap : Nat} {cur : List Value} (hf : Fine S P.length cap (S.length, cur)) (hcur : cur.take (S.length + P.length) = ptrs (S ++ P)) : ∀ m, m ≤ P.length →
    (runL S P (S.length, cur) (upto P.length m)).1 = (laid cfP S (P.drop (P.length - m))).1 ∧
    ∃ junk, junk.length = P.length - m ∧ (runL S P (S.length, cur) (upto P.length m)).2.take (S.length + P.length) = ptrs (S.take (laid cfP S (P.drop (P.length - m))).1) ++ (junk ++ ptrs (laid cfP S (P.drop (P.length - m))).2)
  | 0, _ => by
    have e : P.drop (P.length - 0) = [] := List.drop_eq_nil_of_le (by omega)
    rw [e]
    refine ⟨rfl, ptrs P, by rw [ptrs_len]; omega, ?_⟩
    have e2 : laid cfP S ([] : List Pin) = (S.length, []) := rfl
    have e3 : runL S P (S.length, cur) (upto P.length 0) = (S.length, cur) := rfl
    rw [e2, e3]
    show cur.take (S.length + P.length) = ptrs (S.take S.length) ++ (ptrs P ++ ptrs [])
    rw [hcur, ptrs_append, List.take_length, show ptrs ([] : List Pin) = [] from rfl, List.append_nil]
  | m + 1, hm => by
    obtain ⟨i1, junk, i2, i3⟩ := turns hf hcur m (by omega)
    have hd : P.drop (P.length - (m + 1)) = P.getD (P.length - 1 - m) none_ :: P.drop (P.length - m) := by
      have h1 : P.length - (m + 1) < P.length := by omega
      rw [List.drop_eq_getElem_cons h1]
      congr 1
      · rw [List.getD_eq_getElem?_getD, show P.length - 1 - m = P.length - (m + 1) by omega, List.getElem?_eq_getElem h1]
        rfl
      · congr 1
        omega
    have hfr := fine_run (cap := cap) (upto P.length m) hf (fun a ha => by
      unfold upto at ha
      obtain ⟨t, ht, rfl⟩ := List.mem_map.1 ha
      have := List.mem_range.1 ht
      omega)
    rw [upto_succ, runL_snoc, hd]
    generalize runL S P (S.length, cur) (upto P.length m) = s at *
    obtain ⟨left, cur'⟩ := s
    obtain rfl : left = _ := i1
    simp only [laid]
    obtain ⟨junk', j1, j2⟩ := turn hfr (show P.length - 1 - m < P.length by omega) (by omega) i3
    exact ⟨rfl, junk', by omega, j2⟩
/-- What the loop leaves. -/
theorem all_turns {S P : List Pin} {cap : Nat} {cur : List Value} (hf : Fine S P.length cap (S.length, cur)) (hcur : cur.take (S.length + P.length) = ptrs (S ++ P)) :
    (runL S P (S.length, cur) (upto P.length P.length)).2.take (S.length + P.length) = ptrs (merged cfP S P) := by
  obtain ⟨_, junk, h1, h2⟩ := turns hf hcur P.length (Nat.le_refl _)
  rw [Nat.sub_self, List.drop_zero] at h2
  obtain rfl : junk = [] := List.eq_nil_of_length_eq_zero (by omega)
  rw [h2]
  unfold merged
  rw [ptrs_append]
  rfl
end Go.Proofs.YtkgmcabamhpjhaaGreat.HpLayP

namespace Go.Proofs.YtkgmcabamhpjhaaGreat.HpRound
open Go

/-- One way out, into a class of worlds. -/
def onlyS (C : Act → World → Prop) : Exit → Act → World → Prop
  | .normal, a, w => C a w
  | _, _, _ => False
theorem onlyS_lets {C : Act → World → Prop} : ¬ LetsOut (onlyS C) := fun ⟨_, _, h⟩ => h
def noDefer (o : Oper) : Bool := match o.op with | .defer _ => false | _ => true
theorem noDefer_all {l : List Oper} (h : l.all noDefer = true) : ∀ o ∈ l, ∀ c, o.op ≠ .defer c := fun o ho c e => by
  have := List.all_eq_true.1 h o ho
  unfold noDefer at this
  rw [e] at this
  cases this
section
variable {P : Program} {ops : Array Oper} {Q : Exit → Act → World → Prop} {md : Region.Mode} {r n : Nat}
theorem rows_round {row : String} {args : Array Value} {w : World} {R : Value → World → Prop} (h : Rows P row args w R) : RowsIn (Fence.wide.inRound r) n P row args w R := by
  intro c cs _
  obtain ⟨v, w', fr, s⟩ := h c cs
  exact ⟨v, w', fr, (StepsIn.of_steps s).mono fun m _ => fenced_wide P m⟩
theorem upon_round {o : Oper} {a : Act} {next : Act → World → Prop} (x : Result Next) (h : o.upon P a next Q x) : o.uponIn (Fence.wide.inRound r) n P a next Q x := by
  cases x with
  | ok nx w' =>
    cases nx <;> first
      | exact h
      | exact ⟨fun e => (by cases e), CallsIn.inRound r (callsIn_wide.2 h)⟩
      | exact ⟨fun e => (by cases e), rows_round h⟩
      | exact h.elim
  | halt hx w' => cases hx <;> first | exact h | exact h.elim
theorem op_round {i : Nat} {K : Act → World → Prop} {a : Act} {w : World} (hd : ∀ o ∈ ops.toList, ∀ c, o.op ≠ .defer c) (hq : ¬ LetsOut Q) (h : wpOp P ops Q i K a w) : wpOpIn (Fence.wide.inRound r) n P ops Q i K a w := by
  unfold wpOp at h
  unfold wpOpIn
  cases ho : ops[i]? with
  | none => rw [ho] at h; exact h
  | some o =>
    rw [ho] at h
    simp only at h ⊢
    split at h
    · rename_i hw
      rw [if_pos hw]
      rcases h with h | ⟨_, h⟩
      · refine ⟨fun _ _ => trivial, ?_⟩
        have hm : o ∈ ops.toList := by
          obtain ⟨hi, e⟩ := Array.getElem?_eq_some_iff.1 ho
          rw [← e]
          simp
        rw [Oper.semAt_eq _ _ _ (hd o hm)]
        exact upon_round _ h
      · exact absurd h hq
    · rename_i hw
      rw [if_neg hw]
      exact ⟨fun _ _ => trivial, h⟩
theorem any_round (hd : ∀ o ∈ ops.toList, ∀ c, o.op ≠ .defer c) (hq : ¬ LetsOut Q) : ∀ (fuel : Nat) (listed : Array Bool) (a : Act) (w : World), wpAny P md ops Q fuel listed a w → wpAnyIn (Fence.wide.inRound r) n P md ops Q fuel listed a w
  | 0, _, _, _, h => h
  | fuel + 1, _listed, _a, _w, h => ⟨h.1, fun i hi => op_round hd hq (wpOp_mono (fun a' w' h' => any_round hd hq fuel _ a' w' h') (h.2 i hi))⟩
/-- A region whose first n0 operations only read, the others one behind another. -/
theorem round_tail {id : Nat} {a : Act} {w : World} {l : List Oper} (n0 : Nat) (hm : P.follows .mixedOrders = true) (hd : ∀ o ∈ l, ∀ c, o.op ≠ .defer c) (hq : ¬ LetsOut Q) (hB : Region.lexTailB .any l.toArray n0 = true)
    (h : wpStill P l.toArray w.drew (fun a' => wpList P l.toArray Q (l.drop n0) a' w.drew) (l.take n0) a) : (Code.region id l.toArray true).wpIn (Fence.wide.inRound r) n P Q a w := by
  refine wpIn_region_any hm (any_round hd hq _ _ _ _ ?_)
  unfold Region.lexTailB at hB
  rw [Bool.and_eq_true, Bool.and_eq_true, Bool.and_eq_true, Bool.and_eq_true, decide_eq_true_eq] at hB
  have hlt : n0 < l.length := by have := hB.1.1.1.2; simpa using this
  have e1 : (l.take n0).length = n0 := List.length_take_of_le (Nat.le_of_lt hlt)
  have e2 : (l.drop n0).length = l.toArray.size - n0 := by rw [List.length_drop]; rfl
  have hi : HeadInv .any l.toArray n0 (Array.replicate l.toArray.size false) := by
    refine ⟨by simp, fun j oj _ hl => ?_, fun t _ ht => ?_⟩
    · simp [Array.getD] at hl
    · have ht' : t < l.length := ht
      simp [Array.getD, ht']
  have hhead := wpAnyL_lex hB.1.1.1.1 hB.1.1.2 hB.1.2 hB.1.1.1.2 (l.take n0) 0 _ a (fun j hj => by
    rw [e1] at hj
    simp [hj]) (by rw [e1]; omega) hi (by rw [e1]; exact hB.2) h
  have hall := wpAny_of_head (Q' := Q) (g := l.toArray.size - n0) (fun listed a' hL => e2 ▸ wpAny_of_seq (Q' := Q) (l.drop n0) n0 listed a' w.drew (fun j => by simp [List.getElem?_drop]) (e2.symm ▸ hL.1) hL.2) _ _ _ hhead
  rw [e1, Nat.add_sub_cancel' (Nat.le_of_lt hB.1.1.1.2)] at hall
  exact hall
/-- A region that only reads but for new blocks. -/
theorem round_quiet {id : Nat} {a : Act} {w : World} {l : List Oper} (hm : P.follows .mixedOrders = true) (hd : ∀ o ∈ l, ∀ c, o.op ≠ .defer c) (hq : ¬ LetsOut Q) (hB : Region.lexB .any l.toArray = true)
    (h : wpQuiet P l.toArray (fun w' => ∃ p : Regrown, w' = Sort.grow (redrawn w p.d) p.os) (fun a' => ∀ w', (∃ p : Regrown, w' = Sort.grow (redrawn w p.d) p.os) → Q .normal a' w') l a) : (Code.region id l.toArray true).wpIn (Fence.wide.inRound r) n P Q a w := by
  refine wpIn_region_any hm (any_round hd hq _ _ _ _ ?_)
  unfold Region.lexB at hB
  rw [Bool.and_eq_true] at hB
  refine wpAny_of_quiet (C := fun w' => ∃ p : Regrown, w' = Sort.grow (redrawn w p.d) p.os) (Q := fun a' => ∀ w', (∃ p : Regrown, w' = Sort.grow (redrawn w p.d) p.os) → Q .normal a' w') (fun _ w' hw h => h w' hw) _ _ _ _ ⟨⟨w.drawn + 1, #[]⟩, by rw [Sort.grow_empty]; rfl⟩ ?_
  exact wpAnyQ_lex hB.1 l 0 _ a (fun j => by simp) hB.2 h
end
end Go.Proofs.YtkgmcabamhpjhaaGreat.HpRound

