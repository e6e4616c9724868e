/- FrameLinear's last statement, operation by operation: each keeps what is known ('LinInv.Inv'), whatever has come up before it. Written by wip/gen/linstep.py. Conditions: those of the theorem: the parts lie as told, the table lies as the program's text lays it. -/
import Derived.Test.YtajphomdbdgmbaaDoorLinRun
namespace Go.Proofs.YtajphomdbdgmbaaDoor.LinStep
open Go Go.RowKit Words Plain Crc Tab Summ RefSum SumB Put RefPut App AnyInv LinInv LinRun

def OP : Nat → Op
  | 0 => .move (.tmp 8)
  | 1 => .buildSlice 22 1 #[(0, .tmp 43)]
  | 2 => .call { callee := .value (.func 9), args := #[.tmp 44], argTypes := #[22] }
  | 3 => .move (.tmp 0)
  | 4 => .move (.tmp 7)
  | 5 => .slice 24 (.tmp 46) none (some (.tmp 47)) none
  | 6 => .buildSlice 22 1 #[(0, .tmp 48)]
  | 7 => .call { callee := .value (.func 9), args := #[.tmp 49], argTypes := #[22] }
  | 8 => .move (.tmp 1)
  | 9 => .move (.tmp 7)
  | 10 => .slice 24 (.tmp 51) none (some (.tmp 52)) none
  | 11 => .buildSlice 22 1 #[(0, .tmp 53)]
  | 12 => .call { callee := .value (.func 9), args := #[.tmp 54], argTypes := #[22] }
  | 13 => .binOp .xor 25 (.tmp 50) (.tmp 55) 25
  | 14 => .move (.tmp 2)
  | 15 => .move (.tmp 7)
  | 16 => .slice 24 (.tmp 57) none (some (.tmp 58)) none
  | 17 => .buildSlice 22 1 #[(0, .tmp 59)]
  | 18 => .call { callee := .value (.func 9), args := #[.tmp 60], argTypes := #[22] }
  | 19 => .binOp .xor 25 (.tmp 56) (.tmp 61) 25
  | 20 => .binOp .eql 25 (.tmp 45) (.tmp 62) 25
  | 21 => .move (.tmp 63)
  | 22 => .move (.tmp 0)
  | 23 => .move (.tmp 1)
  | 24 => .move (.tmp 2)
  | 25 => .buildSlice 22 4 #[(0, .tmp 65), (1, .tmp 66), (2, .const (.slice none 0 0)), (3, .tmp 67)]
  | 26 => .call { callee := .value (.func 9), args := #[.tmp 68], argTypes := #[22] }
  | 27 => .buildSlice 24 0 #[]
  | 28 => .move (.tmp 0)
  | 29 => .call { callee := .builtin .append, args := #[.tmp 70, .tmp 71], argTypes := #[24, 24] }
  | 30 => .move (.tmp 1)
  | 31 => .call { callee := .builtin .append, args := #[.tmp 72, .tmp 73], argTypes := #[24, 24] }
  | 32 => .move (.tmp 2)
  | 33 => .call { callee := .builtin .append, args := #[.tmp 74, .tmp 75], argTypes := #[24, 24] }
  | 34 => .buildSlice 22 1 #[(0, .tmp 76)]
  | 35 => .call { callee := .value (.func 9), args := #[.tmp 77], argTypes := #[22] }
  | 36 => .binOp .eql 25 (.tmp 69) (.tmp 78) 25
  | 37 => .pick (.tmp 64) (.tmp 79) (.const (.bool false))
  | _ => .assign (.tmp 80)
def need : Nat → List Nat
  | 1 => [0]
  | 2 => [1]
  | 5 => [3, 4]
  | 6 => [5]
  | 7 => [6]
  | 10 => [8, 9]
  | 11 => [10]
  | 12 => [11]
  | 13 => [7, 12]
  | 16 => [14, 15]
  | 17 => [16]
  | 18 => [17]
  | 19 => [13, 18]
  | 20 => [2, 19]
  | 21 => [20]
  | 22 => [21]
  | 23 => [21]
  | 24 => [21]
  | 25 => [22, 23, 24, 21]
  | 26 => [25, 21]
  | 27 => [21]
  | 28 => [21]
  | 29 => [27, 28, 21]
  | 30 => [21]
  | 31 => [29, 30, 21]
  | 32 => [21]
  | 33 => [31, 32, 21]
  | 34 => [33, 21]
  | 35 => [34, 21]
  | 36 => [26, 35, 21]
  | 37 => [21, 36]
  | 38 => [37]
  | _ => []
def G (i : Nat) : Option (Nat × Bool) := if 22 ≤ i ∧ i ≤ 36 then some (21, true) else none
/-- What is asked of the statement's operations. -/
def OpAt (md : Region.Mode) (i : Nat) (o : Oper) : Prop := o.op = OP i ∧ o.dst = some (dst i) ∧ o.guard = G i ∧ ∀ j ∈ need i, ∃ e ∈ o.after, e.on = j ∧ Region.binds md e = true
theorem opat_of {md : Region.Mode} {i : Nat} {o : Oper} (h1 : o.op = OP i) (h2 : o.dst = some (dst i)) (h3 : o.guard = G i) (h4 : ((need i).all fun j => o.after.any fun e => decide (e.on = j) && Region.binds md e) = true) : OpAt md i o := by
  refine ⟨h1, h2, h3, fun j hj => ?_⟩
  have h := List.all_eq_true.1 h4 j hj
  rw [Array.any_eq_true'] at h
  obtain ⟨e, he, hb⟩ := h
  rw [Bool.and_eq_true, decide_eq_true_eq] at hb
  exact ⟨e, he, hb.1, hb.2⟩
theorem wanted_none {o : Oper} {f : Nat → Option Bool} (hg : o.guard = none) : Region.wanted o f = true := by
  unfold Region.wanted; rw [hg]
/-- The facts on the parts. -/
structure Fit (p : Par) (w0 : World) : Prop where
  laid : Laid w0 w0.heap.size
  base : p.bS = w0.heap.size
  gX : Summ.Good w0 w0.heap.size p.pX
  gA : Summ.Good w0 w0.heap.size p.pA
  gB : Summ.Good w0 w0.heap.size p.pB
  gC : Summ.Good w0 w0.heap.size p.pC
  ga : Summ.Good w0 w0.heap.size p.pa
  gb : Summ.Good w0 w0.heap.size p.pb
  gc : Summ.Good w0 w0.heap.size p.pc
  cut : ∃ n : Nat, p.N = .int .i64 (n : Int) ∧ SV p.pa = .slice p.pA.A n p.pA.c ∧ SV p.pb = .slice p.pB.A n p.pB.c ∧ SV p.pc = .slice p.pC.A n p.pC.c ∧ n ≤ p.pA.c ∧ n ≤ p.pB.c ∧ n ≤ p.pC.c
  sums : sum p.pX.l = (sum p.pa.l ^^^ sum p.pb.l) ^^^ sum p.pc.l
  len : p.pA.l.length + p.pB.l.length + p.pC.l.length ≤ 140737488355328
section
variable {ops : Array Oper} {Q : Exit → Act → World → Prop} {md : Region.Mode} {p : Par} {w0 : World}
theorem good_at {q : Part} {w : World} (h : Summ.Good w0 w0.heap.size q) (hb : Below w0.heap.size w0 w) : Summ.Good w w.heap.size q := good_below h hb
theorem laid_at {w : World} (h : Laid w0 w0.heap.size) (hb : Below w0.heap.size w0 w) : Laid w w.heap.size := (h.below hb).more hb.size
theorem all1 (q : Part) : all [q] = q.l := by simp [all]
theorem all4 (p : Par) : all [p.pA, p.pB, nilP, p.pC] = p.pA.l ++ p.pB.l ++ p.pC.l := by simp [all, nilP]

set_option maxRecDepth 10000 in
theorem step0 (_hF : Fit p w0) (_hy21 : (ops[21]?).bind (·.dst) = some 64) {L : Array Bool} {a : Act} {w : World} {o : Oper} (ho : ops[0]? = some o) (hat : OpAt md 0 o) (_lk : ∀ j ∈ need 0, L.getD j false = true) (_h0 : L.getD 0 true = false) (_hs : L.size = 39) (hI : Inv p w0 L a w) :
    wpOp Tryd.prog ops Q 0 (fun a' w' => Inv p w0 (L.setIfInBounds 0 true) a' w') a w := by
  obtain ⟨hop, hd, hgd, _⟩ := hat
  have hw : Region.wanted o (yielded ops a.tmps) = true := wanted_none hgd
  refine wpOp_value ho hw (run_move hop) ?_
  rw [hd]
  rw [eval_get hI.1.2.2.2.2.2.2]
  exact inv_plain hI 0 _ (by decide) rfl _ (Below.refl _ _) (fun h => absurd h (by decide)) (fun h => absurd h (by decide)) (fun h => absurd h (by decide)) (fun h => absurd h (by decide)) rfl

set_option maxRecDepth 10000 in
theorem step1 (_hF : Fit p w0) (_hy21 : (ops[21]?).bind (·.dst) = some 64) {L : Array Bool} {a : Act} {w : World} {o : Oper} (ho : ops[1]? = some o) (hat : OpAt md 1 o) (lk : ∀ j ∈ need 1, L.getD j false = true) (_h0 : L.getD 1 true = false) (_hs : L.size = 39) (hI : Inv p w0 L a w) :
    wpOp Tryd.prog ops Q 1 (fun a' w' => Inv p w0 (L.setIfInBounds 1 true) a' w') a w := by
  obtain ⟨hop, hd, hgd, _⟩ := hat
  obtain ⟨v0, e0, _, f0⟩ := inv_get hI 0 (by decide) (lk 0 (by decide))
  have hw : Region.wanted o (yielded ops a.tmps) = true := wanted_none hgd
  obtain rfl : v0 = SV p.pX := f0
  refine wpOp_value ho hw (run_build1 hop e0) ?_
  rw [hd]
  exact inv_plain hI 1 _ (by decide) rfl _ ((Below.refl _ _).alloc (Nat.le_refl _) _) (fun h => absurd h (by decide)) (fun h => absurd h (by decide)) (fun h => absurd h (by decide)) (fun h => absurd h (by decide)) (built_alloc w [SV p.pX] 1 rfl)

set_option maxRecDepth 10000 in
theorem step2 (hF : Fit p w0) (_hy21 : (ops[21]?).bind (·.dst) = some 64) {L : Array Bool} {a : Act} {w : World} {o : Oper} (ho : ops[2]? = some o) (hat : OpAt md 2 o) (lk : ∀ j ∈ need 2, L.getD j false = true) (_h0 : L.getD 2 true = false) (_hs : L.size = 39) (hI : Inv p w0 L a w) :
    wpOp Tryd.prog ops Q 2 (fun a' w' => Inv p w0 (L.setIfInBounds 2 true) a' w') a w := by
  obtain ⟨hop, hd, hgd, _⟩ := hat
  obtain ⟨v1, e1, _, f1⟩ := inv_get hI 1 (by decide) (lk 1 (by decide))
  have hw : Region.wanted o (yielded ops a.tmps) = true := wanted_none hgd
  refine wpOp_call ho hw (run_call hop rfl) ?_
  rw [show a.eval (.tmp 44) = v1 from e1]
  refine (sum_built [p.pX] v1 w f1 (fun x hx => by obtain rfl : x = p.pX := (by simpa using hx); exact good_at hF.gX hI.2.1) (by simp) (laid_at hF.laid hI.2.1)).mono ?_
  rintro e w2 ⟨rfl, rfl⟩
  refine ⟨_, rfl, ?_⟩
  rw [hd, all1]
  exact inv_plain hI 2 _ (by decide) rfl _ (Below.refl _ _) (fun h => absurd h (by decide)) (fun h => absurd h (by decide)) (fun h => absurd h (by decide)) (fun h => absurd h (by decide)) rfl

set_option maxRecDepth 10000 in
theorem step3 (_hF : Fit p w0) (_hy21 : (ops[21]?).bind (·.dst) = some 64) {L : Array Bool} {a : Act} {w : World} {o : Oper} (ho : ops[3]? = some o) (hat : OpAt md 3 o) (_lk : ∀ j ∈ need 3, L.getD j false = true) (_h0 : L.getD 3 true = false) (_hs : L.size = 39) (hI : Inv p w0 L a w) :
    wpOp Tryd.prog ops Q 3 (fun a' w' => Inv p w0 (L.setIfInBounds 3 true) a' w') a w := by
  obtain ⟨hop, hd, hgd, _⟩ := hat
  have hw : Region.wanted o (yielded ops a.tmps) = true := wanted_none hgd
  refine wpOp_value ho hw (run_move hop) ?_
  rw [hd]
  rw [eval_get hI.1.2.2.1]
  exact inv_plain hI 3 _ (by decide) rfl _ (Below.refl _ _) (fun h => absurd h (by decide)) (fun h => absurd h (by decide)) (fun h => absurd h (by decide)) (fun h => absurd h (by decide)) rfl

set_option maxRecDepth 10000 in
theorem step4 (_hF : Fit p w0) (_hy21 : (ops[21]?).bind (·.dst) = some 64) {L : Array Bool} {a : Act} {w : World} {o : Oper} (ho : ops[4]? = some o) (hat : OpAt md 4 o) (_lk : ∀ j ∈ need 4, L.getD j false = true) (_h0 : L.getD 4 true = false) (_hs : L.size = 39) (hI : Inv p w0 L a w) :
    wpOp Tryd.prog ops Q 4 (fun a' w' => Inv p w0 (L.setIfInBounds 4 true) a' w') a w := by
  obtain ⟨hop, hd, hgd, _⟩ := hat
  have hw : Region.wanted o (yielded ops a.tmps) = true := wanted_none hgd
  refine wpOp_value ho hw (run_move hop) ?_
  rw [hd]
  rw [eval_get hI.1.2.2.2.2.2.1]
  exact inv_plain hI 4 _ (by decide) rfl _ (Below.refl _ _) (fun h => absurd h (by decide)) (fun h => absurd h (by decide)) (fun h => absurd h (by decide)) (fun h => absurd h (by decide)) rfl

set_option maxRecDepth 10000 in
theorem step5 (hF : Fit p w0) (_hy21 : (ops[21]?).bind (·.dst) = some 64) {L : Array Bool} {a : Act} {w : World} {o : Oper} (ho : ops[5]? = some o) (hat : OpAt md 5 o) (lk : ∀ j ∈ need 5, L.getD j false = true) (_h0 : L.getD 5 true = false) (_hs : L.size = 39) (hI : Inv p w0 L a w) :
    wpOp Tryd.prog ops Q 5 (fun a' w' => Inv p w0 (L.setIfInBounds 5 true) a' w') a w := by
  obtain ⟨hop, hd, hgd, _⟩ := hat
  obtain ⟨v3, e3, _, f3⟩ := inv_get hI 3 (by decide) (lk 3 (by decide))
  obtain ⟨v4, e4, _, f4⟩ := inv_get hI 4 (by decide) (lk 4 (by decide))
  have hw : Region.wanted o (yielded ops a.tmps) = true := wanted_none hgd
  obtain rfl : v3 = SV p.pA := f3
  obtain rfl : v4 = p.N := f4
  obtain ⟨n, hN, ha, _, _, hca, _, _⟩ := hF.cut
  refine wpOp_value ho hw (run_slice hop e3 (e4.trans hN) hca) ?_
  rw [hd]
  exact inv_plain hI 5 _ (by decide) rfl _ (Below.refl _ _) (fun h => absurd h (by decide)) (fun h => absurd h (by decide)) (fun h => absurd h (by decide)) (fun h => absurd h (by decide)) (show _ = SV p.pa from (ha).symm)

set_option maxRecDepth 10000 in
theorem step6 (_hF : Fit p w0) (_hy21 : (ops[21]?).bind (·.dst) = some 64) {L : Array Bool} {a : Act} {w : World} {o : Oper} (ho : ops[6]? = some o) (hat : OpAt md 6 o) (lk : ∀ j ∈ need 6, L.getD j false = true) (_h0 : L.getD 6 true = false) (_hs : L.size = 39) (hI : Inv p w0 L a w) :
    wpOp Tryd.prog ops Q 6 (fun a' w' => Inv p w0 (L.setIfInBounds 6 true) a' w') a w := by
  obtain ⟨hop, hd, hgd, _⟩ := hat
  obtain ⟨v5, e5, _, f5⟩ := inv_get hI 5 (by decide) (lk 5 (by decide))
  have hw : Region.wanted o (yielded ops a.tmps) = true := wanted_none hgd
  obtain rfl : v5 = SV p.pa := f5
  refine wpOp_value ho hw (run_build1 hop e5) ?_
  rw [hd]
  exact inv_plain hI 6 _ (by decide) rfl _ ((Below.refl _ _).alloc (Nat.le_refl _) _) (fun h => absurd h (by decide)) (fun h => absurd h (by decide)) (fun h => absurd h (by decide)) (fun h => absurd h (by decide)) (built_alloc w [SV p.pa] 1 rfl)

set_option maxRecDepth 10000 in
theorem step7 (hF : Fit p w0) (_hy21 : (ops[21]?).bind (·.dst) = some 64) {L : Array Bool} {a : Act} {w : World} {o : Oper} (ho : ops[7]? = some o) (hat : OpAt md 7 o) (lk : ∀ j ∈ need 7, L.getD j false = true) (_h0 : L.getD 7 true = false) (_hs : L.size = 39) (hI : Inv p w0 L a w) :
    wpOp Tryd.prog ops Q 7 (fun a' w' => Inv p w0 (L.setIfInBounds 7 true) a' w') a w := by
  obtain ⟨hop, hd, hgd, _⟩ := hat
  obtain ⟨v6, e6, _, f6⟩ := inv_get hI 6 (by decide) (lk 6 (by decide))
  have hw : Region.wanted o (yielded ops a.tmps) = true := wanted_none hgd
  refine wpOp_call ho hw (run_call hop rfl) ?_
  rw [show a.eval (.tmp 49) = v6 from e6]
  refine (sum_built [p.pa] v6 w f6 (fun x hx => by obtain rfl : x = p.pa := (by simpa using hx); exact good_at hF.ga hI.2.1) (by simp) (laid_at hF.laid hI.2.1)).mono ?_
  rintro e w2 ⟨rfl, rfl⟩
  refine ⟨_, rfl, ?_⟩
  rw [hd, all1]
  exact inv_plain hI 7 _ (by decide) rfl _ (Below.refl _ _) (fun h => absurd h (by decide)) (fun h => absurd h (by decide)) (fun h => absurd h (by decide)) (fun h => absurd h (by decide)) rfl

set_option maxRecDepth 10000 in
theorem step8 (_hF : Fit p w0) (_hy21 : (ops[21]?).bind (·.dst) = some 64) {L : Array Bool} {a : Act} {w : World} {o : Oper} (ho : ops[8]? = some o) (hat : OpAt md 8 o) (_lk : ∀ j ∈ need 8, L.getD j false = true) (_h0 : L.getD 8 true = false) (_hs : L.size = 39) (hI : Inv p w0 L a w) :
    wpOp Tryd.prog ops Q 8 (fun a' w' => Inv p w0 (L.setIfInBounds 8 true) a' w') a w := by
  obtain ⟨hop, hd, hgd, _⟩ := hat
  have hw : Region.wanted o (yielded ops a.tmps) = true := wanted_none hgd
  refine wpOp_value ho hw (run_move hop) ?_
  rw [hd]
  rw [eval_get hI.1.2.2.2.1]
  exact inv_plain hI 8 _ (by decide) rfl _ (Below.refl _ _) (fun h => absurd h (by decide)) (fun h => absurd h (by decide)) (fun h => absurd h (by decide)) (fun h => absurd h (by decide)) rfl

set_option maxRecDepth 10000 in
theorem step9 (_hF : Fit p w0) (_hy21 : (ops[21]?).bind (·.dst) = some 64) {L : Array Bool} {a : Act} {w : World} {o : Oper} (ho : ops[9]? = some o) (hat : OpAt md 9 o) (_lk : ∀ j ∈ need 9, L.getD j false = true) (_h0 : L.getD 9 true = false) (_hs : L.size = 39) (hI : Inv p w0 L a w) :
    wpOp Tryd.prog ops Q 9 (fun a' w' => Inv p w0 (L.setIfInBounds 9 true) a' w') a w := by
  obtain ⟨hop, hd, hgd, _⟩ := hat
  have hw : Region.wanted o (yielded ops a.tmps) = true := wanted_none hgd
  refine wpOp_value ho hw (run_move hop) ?_
  rw [hd]
  rw [eval_get hI.1.2.2.2.2.2.1]
  exact inv_plain hI 9 _ (by decide) rfl _ (Below.refl _ _) (fun h => absurd h (by decide)) (fun h => absurd h (by decide)) (fun h => absurd h (by decide)) (fun h => absurd h (by decide)) rfl

set_option maxRecDepth 10000 in
theorem step10 (hF : Fit p w0) (_hy21 : (ops[21]?).bind (·.dst) = some 64) {L : Array Bool} {a : Act} {w : World} {o : Oper} (ho : ops[10]? = some o) (hat : OpAt md 10 o) (lk : ∀ j ∈ need 10, L.getD j false = true) (_h0 : L.getD 10 true = false) (_hs : L.size = 39) (hI : Inv p w0 L a w) :
    wpOp Tryd.prog ops Q 10 (fun a' w' => Inv p w0 (L.setIfInBounds 10 true) a' w') a w := by
  obtain ⟨hop, hd, hgd, _⟩ := hat
  obtain ⟨v8, e8, _, f8⟩ := inv_get hI 8 (by decide) (lk 8 (by decide))
  obtain ⟨v9, e9, _, f9⟩ := inv_get hI 9 (by decide) (lk 9 (by decide))
  have hw : Region.wanted o (yielded ops a.tmps) = true := wanted_none hgd
  obtain rfl : v8 = SV p.pB := f8
  obtain rfl : v9 = p.N := f9
  obtain ⟨n, hN, _, hb, _, _, hcb, _⟩ := hF.cut
  refine wpOp_value ho hw (run_slice hop e8 (e9.trans hN) hcb) ?_
  rw [hd]
  exact inv_plain hI 10 _ (by decide) rfl _ (Below.refl _ _) (fun h => absurd h (by decide)) (fun h => absurd h (by decide)) (fun h => absurd h (by decide)) (fun h => absurd h (by decide)) (show _ = SV p.pb from (hb).symm)

set_option maxRecDepth 10000 in
theorem step11 (_hF : Fit p w0) (_hy21 : (ops[21]?).bind (·.dst) = some 64) {L : Array Bool} {a : Act} {w : World} {o : Oper} (ho : ops[11]? = some o) (hat : OpAt md 11 o) (lk : ∀ j ∈ need 11, L.getD j false = true) (_h0 : L.getD 11 true = false) (_hs : L.size = 39) (hI : Inv p w0 L a w) :
    wpOp Tryd.prog ops Q 11 (fun a' w' => Inv p w0 (L.setIfInBounds 11 true) a' w') a w := by
  obtain ⟨hop, hd, hgd, _⟩ := hat
  obtain ⟨v10, e10, _, f10⟩ := inv_get hI 10 (by decide) (lk 10 (by decide))
  have hw : Region.wanted o (yielded ops a.tmps) = true := wanted_none hgd
  obtain rfl : v10 = SV p.pb := f10
  refine wpOp_value ho hw (run_build1 hop e10) ?_
  rw [hd]
  exact inv_plain hI 11 _ (by decide) rfl _ ((Below.refl _ _).alloc (Nat.le_refl _) _) (fun h => absurd h (by decide)) (fun h => absurd h (by decide)) (fun h => absurd h (by decide)) (fun h => absurd h (by decide)) (built_alloc w [SV p.pb] 1 rfl)

set_option maxRecDepth 10000 in
theorem step12 (hF : Fit p w0) (_hy21 : (ops[21]?).bind (·.dst) = some 64) {L : Array Bool} {a : Act} {w : World} {o : Oper} (ho : ops[12]? = some o) (hat : OpAt md 12 o) (lk : ∀ j ∈ need 12, L.getD j false = true) (_h0 : L.getD 12 true = false) (_hs : L.size = 39) (hI : Inv p w0 L a w) :
    wpOp Tryd.prog ops Q 12 (fun a' w' => Inv p w0 (L.setIfInBounds 12 true) a' w') a w := by
  obtain ⟨hop, hd, hgd, _⟩ := hat
  obtain ⟨v11, e11, _, f11⟩ := inv_get hI 11 (by decide) (lk 11 (by decide))
  have hw : Region.wanted o (yielded ops a.tmps) = true := wanted_none hgd
  refine wpOp_call ho hw (run_call hop rfl) ?_
  rw [show a.eval (.tmp 54) = v11 from e11]
  refine (sum_built [p.pb] v11 w f11 (fun x hx => by obtain rfl : x = p.pb := (by simpa using hx); exact good_at hF.gb hI.2.1) (by simp) (laid_at hF.laid hI.2.1)).mono ?_
  rintro e w2 ⟨rfl, rfl⟩
  refine ⟨_, rfl, ?_⟩
  rw [hd, all1]
  exact inv_plain hI 12 _ (by decide) rfl _ (Below.refl _ _) (fun h => absurd h (by decide)) (fun h => absurd h (by decide)) (fun h => absurd h (by decide)) (fun h => absurd h (by decide)) rfl

set_option maxRecDepth 10000 in
theorem step13 (_hF : Fit p w0) (_hy21 : (ops[21]?).bind (·.dst) = some 64) {L : Array Bool} {a : Act} {w : World} {o : Oper} (ho : ops[13]? = some o) (hat : OpAt md 13 o) (lk : ∀ j ∈ need 13, L.getD j false = true) (_h0 : L.getD 13 true = false) (_hs : L.size = 39) (hI : Inv p w0 L a w) :
    wpOp Tryd.prog ops Q 13 (fun a' w' => Inv p w0 (L.setIfInBounds 13 true) a' w') a w := by
  obtain ⟨hop, hd, hgd, _⟩ := hat
  obtain ⟨v7, e7, _, f7⟩ := inv_get hI 7 (by decide) (lk 7 (by decide))
  obtain ⟨v12, e12, _, f12⟩ := inv_get hI 12 (by decide) (lk 12 (by decide))
  have hw : Region.wanted o (yielded ops a.tmps) = true := wanted_none hgd
  obtain rfl : v7 = U (sum p.pa.l) := f7
  obtain rfl : v12 = U (sum p.pb.l) := f12
  refine wpOp_value ho hw (run_xor hop e7 e12 (sum_lt _) (sum_lt _)) ?_
  rw [hd]
  exact inv_plain hI 13 _ (by decide) rfl _ (Below.refl _ _) (fun h => absurd h (by decide)) (fun h => absurd h (by decide)) (fun h => absurd h (by decide)) (fun h => absurd h (by decide)) rfl

set_option maxRecDepth 10000 in
theorem step14 (_hF : Fit p w0) (_hy21 : (ops[21]?).bind (·.dst) = some 64) {L : Array Bool} {a : Act} {w : World} {o : Oper} (ho : ops[14]? = some o) (hat : OpAt md 14 o) (_lk : ∀ j ∈ need 14, L.getD j false = true) (_h0 : L.getD 14 true = false) (_hs : L.size = 39) (hI : Inv p w0 L a w) :
    wpOp Tryd.prog ops Q 14 (fun a' w' => Inv p w0 (L.setIfInBounds 14 true) a' w') a w := by
  obtain ⟨hop, hd, hgd, _⟩ := hat
  have hw : Region.wanted o (yielded ops a.tmps) = true := wanted_none hgd
  refine wpOp_value ho hw (run_move hop) ?_
  rw [hd]
  rw [eval_get hI.1.2.2.2.2.1]
  exact inv_plain hI 14 _ (by decide) rfl _ (Below.refl _ _) (fun h => absurd h (by decide)) (fun h => absurd h (by decide)) (fun h => absurd h (by decide)) (fun h => absurd h (by decide)) rfl

set_option maxRecDepth 10000 in
theorem step15 (_hF : Fit p w0) (_hy21 : (ops[21]?).bind (·.dst) = some 64) {L : Array Bool} {a : Act} {w : World} {o : Oper} (ho : ops[15]? = some o) (hat : OpAt md 15 o) (_lk : ∀ j ∈ need 15, L.getD j false = true) (_h0 : L.getD 15 true = false) (_hs : L.size = 39) (hI : Inv p w0 L a w) :
    wpOp Tryd.prog ops Q 15 (fun a' w' => Inv p w0 (L.setIfInBounds 15 true) a' w') a w := by
  obtain ⟨hop, hd, hgd, _⟩ := hat
  have hw : Region.wanted o (yielded ops a.tmps) = true := wanted_none hgd
  refine wpOp_value ho hw (run_move hop) ?_
  rw [hd]
  rw [eval_get hI.1.2.2.2.2.2.1]
  exact inv_plain hI 15 _ (by decide) rfl _ (Below.refl _ _) (fun h => absurd h (by decide)) (fun h => absurd h (by decide)) (fun h => absurd h (by decide)) (fun h => absurd h (by decide)) rfl

set_option maxRecDepth 10000 in
theorem step16 (hF : Fit p w0) (_hy21 : (ops[21]?).bind (·.dst) = some 64) {L : Array Bool} {a : Act} {w : World} {o : Oper} (ho : ops[16]? = some o) (hat : OpAt md 16 o) (lk : ∀ j ∈ need 16, L.getD j false = true) (_h0 : L.getD 16 true = false) (_hs : L.size = 39) (hI : Inv p w0 L a w) :
    wpOp Tryd.prog ops Q 16 (fun a' w' => Inv p w0 (L.setIfInBounds 16 true) a' w') a w := by
  obtain ⟨hop, hd, hgd, _⟩ := hat
  obtain ⟨v14, e14, _, f14⟩ := inv_get hI 14 (by decide) (lk 14 (by decide))
  obtain ⟨v15, e15, _, f15⟩ := inv_get hI 15 (by decide) (lk 15 (by decide))
  have hw : Region.wanted o (yielded ops a.tmps) = true := wanted_none hgd
  obtain rfl : v14 = SV p.pC := f14
  obtain rfl : v15 = p.N := f15
  obtain ⟨n, hN, _, _, hc, _, _, hcc⟩ := hF.cut
  refine wpOp_value ho hw (run_slice hop e14 (e15.trans hN) hcc) ?_
  rw [hd]
  exact inv_plain hI 16 _ (by decide) rfl _ (Below.refl _ _) (fun h => absurd h (by decide)) (fun h => absurd h (by decide)) (fun h => absurd h (by decide)) (fun h => absurd h (by decide)) (show _ = SV p.pc from (hc).symm)

set_option maxRecDepth 10000 in
theorem step17 (_hF : Fit p w0) (_hy21 : (ops[21]?).bind (·.dst) = some 64) {L : Array Bool} {a : Act} {w : World} {o : Oper} (ho : ops[17]? = some o) (hat : OpAt md 17 o) (lk : ∀ j ∈ need 17, L.getD j false = true) (_h0 : L.getD 17 true = false) (_hs : L.size = 39) (hI : Inv p w0 L a w) :
    wpOp Tryd.prog ops Q 17 (fun a' w' => Inv p w0 (L.setIfInBounds 17 true) a' w') a w := by
  obtain ⟨hop, hd, hgd, _⟩ := hat
  obtain ⟨v16, e16, _, f16⟩ := inv_get hI 16 (by decide) (lk 16 (by decide))
  have hw : Region.wanted o (yielded ops a.tmps) = true := wanted_none hgd
  obtain rfl : v16 = SV p.pc := f16
  refine wpOp_value ho hw (run_build1 hop e16) ?_
  rw [hd]
  exact inv_plain hI 17 _ (by decide) rfl _ ((Below.refl _ _).alloc (Nat.le_refl _) _) (fun h => absurd h (by decide)) (fun h => absurd h (by decide)) (fun h => absurd h (by decide)) (fun h => absurd h (by decide)) (built_alloc w [SV p.pc] 1 rfl)

set_option maxRecDepth 10000 in
theorem step18 (hF : Fit p w0) (_hy21 : (ops[21]?).bind (·.dst) = some 64) {L : Array Bool} {a : Act} {w : World} {o : Oper} (ho : ops[18]? = some o) (hat : OpAt md 18 o) (lk : ∀ j ∈ need 18, L.getD j false = true) (_h0 : L.getD 18 true = false) (_hs : L.size = 39) (hI : Inv p w0 L a w) :
    wpOp Tryd.prog ops Q 18 (fun a' w' => Inv p w0 (L.setIfInBounds 18 true) a' w') a w := by
  obtain ⟨hop, hd, hgd, _⟩ := hat
  obtain ⟨v17, e17, _, f17⟩ := inv_get hI 17 (by decide) (lk 17 (by decide))
  have hw : Region.wanted o (yielded ops a.tmps) = true := wanted_none hgd
  refine wpOp_call ho hw (run_call hop rfl) ?_
  rw [show a.eval (.tmp 60) = v17 from e17]
  refine (sum_built [p.pc] v17 w f17 (fun x hx => by obtain rfl : x = p.pc := (by simpa using hx); exact good_at hF.gc hI.2.1) (by simp) (laid_at hF.laid hI.2.1)).mono ?_
  rintro e w2 ⟨rfl, rfl⟩
  refine ⟨_, rfl, ?_⟩
  rw [hd, all1]
  exact inv_plain hI 18 _ (by decide) rfl _ (Below.refl _ _) (fun h => absurd h (by decide)) (fun h => absurd h (by decide)) (fun h => absurd h (by decide)) (fun h => absurd h (by decide)) rfl

set_option maxRecDepth 10000 in
theorem step19 (_hF : Fit p w0) (_hy21 : (ops[21]?).bind (·.dst) = some 64) {L : Array Bool} {a : Act} {w : World} {o : Oper} (ho : ops[19]? = some o) (hat : OpAt md 19 o) (lk : ∀ j ∈ need 19, L.getD j false = true) (_h0 : L.getD 19 true = false) (_hs : L.size = 39) (hI : Inv p w0 L a w) :
    wpOp Tryd.prog ops Q 19 (fun a' w' => Inv p w0 (L.setIfInBounds 19 true) a' w') a w := by
  obtain ⟨hop, hd, hgd, _⟩ := hat
  obtain ⟨v13, e13, _, f13⟩ := inv_get hI 13 (by decide) (lk 13 (by decide))
  obtain ⟨v18, e18, _, f18⟩ := inv_get hI 18 (by decide) (lk 18 (by decide))
  have hw : Region.wanted o (yielded ops a.tmps) = true := wanted_none hgd
  obtain rfl : v13 = U (sum p.pa.l ^^^ sum p.pb.l) := f13
  obtain rfl : v18 = U (sum p.pc.l) := f18
  refine wpOp_value ho hw (run_xor hop e13 e18 (Nat.xor_lt_two_pow (sum_lt _) (sum_lt _)) (sum_lt _)) ?_
  rw [hd]
  exact inv_plain hI 19 _ (by decide) rfl _ (Below.refl _ _) (fun h => absurd h (by decide)) (fun h => absurd h (by decide)) (fun h => absurd h (by decide)) (fun h => absurd h (by decide)) rfl

set_option maxRecDepth 10000 in
theorem step20 (hF : Fit p w0) (_hy21 : (ops[21]?).bind (·.dst) = some 64) {L : Array Bool} {a : Act} {w : World} {o : Oper} (ho : ops[20]? = some o) (hat : OpAt md 20 o) (lk : ∀ j ∈ need 20, L.getD j false = true) (_h0 : L.getD 20 true = false) (_hs : L.size = 39) (hI : Inv p w0 L a w) :
    wpOp Tryd.prog ops Q 20 (fun a' w' => Inv p w0 (L.setIfInBounds 20 true) a' w') a w := by
  obtain ⟨hop, hd, hgd, _⟩ := hat
  obtain ⟨v2, e2, _, f2⟩ := inv_get hI 2 (by decide) (lk 2 (by decide))
  obtain ⟨v19, e19, _, f19⟩ := inv_get hI 19 (by decide) (lk 19 (by decide))
  have hw : Region.wanted o (yielded ops a.tmps) = true := wanted_none hgd
  obtain rfl : v2 = U (sum p.pX.l) := f2
  rw [hF.sums] at e2
  obtain rfl : v19 = U ((sum p.pa.l ^^^ sum p.pb.l) ^^^ sum p.pc.l) := f19
  refine wpOp_value ho hw (run_eql hop e2 e19) ?_
  rw [hd]
  exact inv_plain hI 20 _ (by decide) rfl _ (Below.refl _ _) (fun h => absurd h (by decide)) (fun h => absurd h (by decide)) (fun h => absurd h (by decide)) (fun h => absurd h (by decide)) rfl

set_option maxRecDepth 10000 in
theorem step21 (_hF : Fit p w0) (_hy21 : (ops[21]?).bind (·.dst) = some 64) {L : Array Bool} {a : Act} {w : World} {o : Oper} (ho : ops[21]? = some o) (hat : OpAt md 21 o) (lk : ∀ j ∈ need 21, L.getD j false = true) (_h0 : L.getD 21 true = false) (_hs : L.size = 39) (hI : Inv p w0 L a w) :
    wpOp Tryd.prog ops Q 21 (fun a' w' => Inv p w0 (L.setIfInBounds 21 true) a' w') a w := by
  obtain ⟨hop, hd, hgd, _⟩ := hat
  obtain ⟨v20, e20, _, f20⟩ := inv_get hI 20 (by decide) (lk 20 (by decide))
  have hw : Region.wanted o (yielded ops a.tmps) = true := wanted_none hgd
  refine wpOp_value ho hw (run_move hop) ?_
  rw [hd]
  obtain rfl : v20 = .bool true := f20
  rw [show a.eval (.tmp 63) = .bool true from e20]
  exact inv_plain hI 21 _ (by decide) rfl _ (Below.refl _ _) (fun h => absurd h (by decide)) (fun h => absurd h (by decide)) (fun h => absurd h (by decide)) (fun h => absurd h (by decide)) rfl

set_option maxRecDepth 10000 in
theorem step22 (_hF : Fit p w0) (hy21 : (ops[21]?).bind (·.dst) = some 64) {L : Array Bool} {a : Act} {w : World} {o : Oper} (ho : ops[22]? = some o) (hat : OpAt md 22 o) (lk : ∀ j ∈ need 22, L.getD j false = true) (_h0 : L.getD 22 true = false) (_hs : L.size = 39) (hI : Inv p w0 L a w) :
    wpOp Tryd.prog ops Q 22 (fun a' w' => Inv p w0 (L.setIfInBounds 22 true) a' w') a w := by
  obtain ⟨hop, hd, hgd, _⟩ := hat
  obtain ⟨v21, _, t21, f21⟩ := inv_get hI 21 (by decide) (lk 21 (by decide))
  obtain rfl : v21 = .bool true := f21
  have hw : Region.wanted o (yielded ops a.tmps) = true := wanted_at hgd (yields_at hy21 t21)
  refine wpOp_value ho hw (run_move hop) ?_
  rw [hd]
  rw [eval_get hI.1.2.2.1]
  exact inv_plain hI 22 _ (by decide) rfl _ (Below.refl _ _) (fun h => absurd h (by decide)) (fun h => absurd h (by decide)) (fun h => absurd h (by decide)) (fun h => absurd h (by decide)) rfl

set_option maxRecDepth 10000 in
theorem step23 (_hF : Fit p w0) (hy21 : (ops[21]?).bind (·.dst) = some 64) {L : Array Bool} {a : Act} {w : World} {o : Oper} (ho : ops[23]? = some o) (hat : OpAt md 23 o) (lk : ∀ j ∈ need 23, L.getD j false = true) (_h0 : L.getD 23 true = false) (_hs : L.size = 39) (hI : Inv p w0 L a w) :
    wpOp Tryd.prog ops Q 23 (fun a' w' => Inv p w0 (L.setIfInBounds 23 true) a' w') a w := by
  obtain ⟨hop, hd, hgd, _⟩ := hat
  obtain ⟨v21, _, t21, f21⟩ := inv_get hI 21 (by decide) (lk 21 (by decide))
  obtain rfl : v21 = .bool true := f21
  have hw : Region.wanted o (yielded ops a.tmps) = true := wanted_at hgd (yields_at hy21 t21)
  refine wpOp_value ho hw (run_move hop) ?_
  rw [hd]
  rw [eval_get hI.1.2.2.2.1]
  exact inv_plain hI 23 _ (by decide) rfl _ (Below.refl _ _) (fun h => absurd h (by decide)) (fun h => absurd h (by decide)) (fun h => absurd h (by decide)) (fun h => absurd h (by decide)) rfl

set_option maxRecDepth 10000 in
theorem step24 (_hF : Fit p w0) (hy21 : (ops[21]?).bind (·.dst) = some 64) {L : Array Bool} {a : Act} {w : World} {o : Oper} (ho : ops[24]? = some o) (hat : OpAt md 24 o) (lk : ∀ j ∈ need 24, L.getD j false = true) (_h0 : L.getD 24 true = false) (_hs : L.size = 39) (hI : Inv p w0 L a w) :
    wpOp Tryd.prog ops Q 24 (fun a' w' => Inv p w0 (L.setIfInBounds 24 true) a' w') a w := by
  obtain ⟨hop, hd, hgd, _⟩ := hat
  obtain ⟨v21, _, t21, f21⟩ := inv_get hI 21 (by decide) (lk 21 (by decide))
  obtain rfl : v21 = .bool true := f21
  have hw : Region.wanted o (yielded ops a.tmps) = true := wanted_at hgd (yields_at hy21 t21)
  refine wpOp_value ho hw (run_move hop) ?_
  rw [hd]
  rw [eval_get hI.1.2.2.2.2.1]
  exact inv_plain hI 24 _ (by decide) rfl _ (Below.refl _ _) (fun h => absurd h (by decide)) (fun h => absurd h (by decide)) (fun h => absurd h (by decide)) (fun h => absurd h (by decide)) rfl

set_option maxRecDepth 10000 in
theorem step25 (_hF : Fit p w0) (hy21 : (ops[21]?).bind (·.dst) = some 64) {L : Array Bool} {a : Act} {w : World} {o : Oper} (ho : ops[25]? = some o) (hat : OpAt md 25 o) (lk : ∀ j ∈ need 25, L.getD j false = true) (_h0 : L.getD 25 true = false) (_hs : L.size = 39) (hI : Inv p w0 L a w) :
    wpOp Tryd.prog ops Q 25 (fun a' w' => Inv p w0 (L.setIfInBounds 25 true) a' w') a w := by
  obtain ⟨hop, hd, hgd, _⟩ := hat
  obtain ⟨v22, e22, _, f22⟩ := inv_get hI 22 (by decide) (lk 22 (by decide))
  obtain ⟨v23, e23, _, f23⟩ := inv_get hI 23 (by decide) (lk 23 (by decide))
  obtain ⟨v24, e24, _, f24⟩ := inv_get hI 24 (by decide) (lk 24 (by decide))
  obtain ⟨v21, _, t21, f21⟩ := inv_get hI 21 (by decide) (lk 21 (by decide))
  obtain rfl : v21 = .bool true := f21
  have hw : Region.wanted o (yielded ops a.tmps) = true := wanted_at hgd (yields_at hy21 t21)
  obtain rfl : v22 = SV p.pA := f22
  obtain rfl : v23 = SV p.pB := f23
  obtain rfl : v24 = SV p.pC := f24
  refine wpOp_value ho hw (run_build4 (q3 := nilP) hop e22 e23 rfl e24) ?_
  rw [hd]
  exact inv_plain hI 25 _ (by decide) rfl _ ((Below.refl _ _).alloc (Nat.le_refl _) _) (fun h => absurd h (by decide)) (fun h => absurd h (by decide)) (fun h => absurd h (by decide)) (fun h => absurd h (by decide)) (built_alloc w [SV p.pA, SV p.pB, SV nilP, SV p.pC] 4 rfl)

set_option maxRecDepth 10000 in
theorem step26 (hF : Fit p w0) (hy21 : (ops[21]?).bind (·.dst) = some 64) {L : Array Bool} {a : Act} {w : World} {o : Oper} (ho : ops[26]? = some o) (hat : OpAt md 26 o) (lk : ∀ j ∈ need 26, L.getD j false = true) (_h0 : L.getD 26 true = false) (_hs : L.size = 39) (hI : Inv p w0 L a w) :
    wpOp Tryd.prog ops Q 26 (fun a' w' => Inv p w0 (L.setIfInBounds 26 true) a' w') a w := by
  obtain ⟨hop, hd, hgd, _⟩ := hat
  obtain ⟨v25, e25, _, f25⟩ := inv_get hI 25 (by decide) (lk 25 (by decide))
  obtain ⟨v21, _, t21, f21⟩ := inv_get hI 21 (by decide) (lk 21 (by decide))
  obtain rfl : v21 = .bool true := f21
  have hw : Region.wanted o (yielded ops a.tmps) = true := wanted_at hgd (yields_at hy21 t21)
  refine wpOp_call ho hw (run_call hop rfl) ?_
  rw [show a.eval (.tmp 68) = v25 from e25]
  refine (sum_built [p.pA, p.pB, nilP, p.pC] v25 w f25 (fun x hx => by
    simp only [List.mem_cons, List.not_mem_nil, or_false] at hx
    rcases hx with rfl | rfl | rfl | rfl
    · exact good_at hF.gA hI.2.1
    · exact good_at hF.gB hI.2.1
    · exact ⟨Rd.nil_, Nat.le_refl _, Nat.zero_le _⟩
    · exact good_at hF.gC hI.2.1) (by simp) (laid_at hF.laid hI.2.1)).mono ?_
  rintro e w2 ⟨rfl, rfl⟩
  refine ⟨_, rfl, ?_⟩
  rw [hd]
  exact inv_plain hI 26 _ (by decide) rfl _ (Below.refl _ _) (fun h => absurd h (by decide)) (fun h => absurd h (by decide)) (fun h => absurd h (by decide)) (fun h => absurd h (by decide)) rfl

set_option maxRecDepth 10000 in
theorem step27 (hF : Fit p w0) (hy21 : (ops[21]?).bind (·.dst) = some 64) {L : Array Bool} {a : Act} {w : World} {o : Oper} (ho : ops[27]? = some o) (hat : OpAt md 27 o) (lk : ∀ j ∈ need 27, L.getD j false = true) (_h0 : L.getD 27 true = false) (_hs : L.size = 39) (hI : Inv p w0 L a w) :
    wpOp Tryd.prog ops Q 27 (fun a' w' => Inv p w0 (L.setIfInBounds 27 true) a' w') a w := by
  obtain ⟨hop, hd, hgd, _⟩ := hat
  obtain ⟨v21, _, t21, f21⟩ := inv_get hI 21 (by decide) (lk 21 (by decide))
  obtain rfl : v21 = .bool true := f21
  have hw : Region.wanted o (yielded ops a.tmps) = true := wanted_at hgd (yields_at hy21 t21)
  refine wpOp_value ho hw (run_build0 hop) ?_
  rw [hd]
  have hbase : p.bS ≤ w.heap.size := by have := hI.2.1.size; have := hF.base; omega
  exact inv_plain hI 27 _ (by decide) rfl _ ((Below.refl _ _).alloc (Nat.le_refl _) _) (fun h => absurd h (by decide)) (fun h => absurd h (by decide)) (fun h => absurd h (by decide)) (fun h => absurd h (by decide)) (fun _ => World.ownsRow_lit (base := p.bS) (e := 5) (size := 1) w #[] 0 hbase (by unfold maxLen; omega) rfl)

set_option maxRecDepth 10000 in
theorem step28 (_hF : Fit p w0) (hy21 : (ops[21]?).bind (·.dst) = some 64) {L : Array Bool} {a : Act} {w : World} {o : Oper} (ho : ops[28]? = some o) (hat : OpAt md 28 o) (lk : ∀ j ∈ need 28, L.getD j false = true) (_h0 : L.getD 28 true = false) (_hs : L.size = 39) (hI : Inv p w0 L a w) :
    wpOp Tryd.prog ops Q 28 (fun a' w' => Inv p w0 (L.setIfInBounds 28 true) a' w') a w := by
  obtain ⟨hop, hd, hgd, _⟩ := hat
  obtain ⟨v21, _, t21, f21⟩ := inv_get hI 21 (by decide) (lk 21 (by decide))
  obtain rfl : v21 = .bool true := f21
  have hw : Region.wanted o (yielded ops a.tmps) = true := wanted_at hgd (yields_at hy21 t21)
  refine wpOp_value ho hw (run_move hop) ?_
  rw [hd]
  rw [eval_get hI.1.2.2.1]
  exact inv_plain hI 28 _ (by decide) rfl _ (Below.refl _ _) (fun h => absurd h (by decide)) (fun h => absurd h (by decide)) (fun h => absurd h (by decide)) (fun h => absurd h (by decide)) rfl

set_option maxRecDepth 10000 in
theorem step29 (hF : Fit p w0) (hy21 : (ops[21]?).bind (·.dst) = some 64) {L : Array Bool} {a : Act} {w : World} {o : Oper} (ho : ops[29]? = some o) (hat : OpAt md 29 o) (lk : ∀ j ∈ need 29, L.getD j false = true) (h0 : L.getD 29 true = false) (hs : L.size = 39) (hI : Inv p w0 L a w) :
    wpOp Tryd.prog ops Q 29 (fun a' w' => Inv p w0 (L.setIfInBounds 29 true) a' w') a w := by
  obtain ⟨hop, hd, hgd, _⟩ := hat
  obtain ⟨v27, e27, _, f27⟩ := inv_get hI 27 (by decide) (lk 27 (by decide))
  obtain ⟨v28, e28, _, f28⟩ := inv_get hI 28 (by decide) (lk 28 (by decide))
  obtain ⟨v21, _, t21, f21⟩ := inv_get hI 21 (by decide) (lk 21 (by decide))
  obtain rfl : v21 = .bool true := f21
  have hw : Region.wanted o (yielded ops a.tmps) = true := wanted_at hgd (yields_at hy21 t21)
  have hif : L.getD 29 false = false := by
    rw [Array.getD_eq_getD_getElem?] at h0 ⊢
    rw [Array.getElem?_eq_getElem (by omega)] at h0 ⊢
    simpa using h0
  have hown := f27 hif
  obtain rfl : v28 = SV p.pA := f28
  obtain ⟨i0, hi, hz0, hz1, hz2⟩ := info_parts info_u8
  have hg := good_at hF.gA hI.2.1
  have hlen := hF.len
  have hbase : p.bS ≤ w.heap.size := by have := hI.2.1.size; have := hF.base; omega
  refine wpOp_wp ho hw (wp_append_rd w (.tmp 70) (.tmp 71) 24 hop p.bS 5 i0 (.int .u8 0) 1 Tryd.underlying24 hi hz0 hz1 hz2 rfl v27 _ _ e27 hown w.heap.size p.pA.A p.pA.l.length p.pA.c (p.pA.l.map B8) e28 (by simp) hg.1 (one8 _) (by unfold maxLen; simp; omega) (by simp; omega) hbase ?_)
  intro v' w' h1 h2 _
  rw [hd]
  have hk := kept_grown hown h2
  have hb : Below w0.heap.size w0 w' := below_app (by rw [← hF.base]; exact hown) hI.2.1 h2
  have hn : Own p w' v' p.pA.l := by
    unfold Own
    have e : ([] ++ p.pA.l) = p.pA.l := by simp
    rw [← e, List.length_append, List.map_append]
    exact h1
  have hc := closed_set (i := 29) hI.2.2.1 (fun _ => lk 27 (by decide)) (fun h => absurd h (by decide)) (fun h => absurd h (by decide)) (fun h => absurd h (by decide))
  exact inv_put hI 29 _ (by decide) rfl v' hb hc (fun j u hj hl hu => phi_app (k := 27) (.inl ⟨rfl, rfl⟩) hI.2.2.1 hs h0 (lk 27 (by decide)) hl hu hk) (fun _ => hn)

set_option maxRecDepth 10000 in
theorem step30 (_hF : Fit p w0) (hy21 : (ops[21]?).bind (·.dst) = some 64) {L : Array Bool} {a : Act} {w : World} {o : Oper} (ho : ops[30]? = some o) (hat : OpAt md 30 o) (lk : ∀ j ∈ need 30, L.getD j false = true) (_h0 : L.getD 30 true = false) (_hs : L.size = 39) (hI : Inv p w0 L a w) :
    wpOp Tryd.prog ops Q 30 (fun a' w' => Inv p w0 (L.setIfInBounds 30 true) a' w') a w := by
  obtain ⟨hop, hd, hgd, _⟩ := hat
  obtain ⟨v21, _, t21, f21⟩ := inv_get hI 21 (by decide) (lk 21 (by decide))
  obtain rfl : v21 = .bool true := f21
  have hw : Region.wanted o (yielded ops a.tmps) = true := wanted_at hgd (yields_at hy21 t21)
  refine wpOp_value ho hw (run_move hop) ?_
  rw [hd]
  rw [eval_get hI.1.2.2.2.1]
  exact inv_plain hI 30 _ (by decide) rfl _ (Below.refl _ _) (fun h => absurd h (by decide)) (fun h => absurd h (by decide)) (fun h => absurd h (by decide)) (fun h => absurd h (by decide)) rfl

set_option maxRecDepth 10000 in
theorem step31 (hF : Fit p w0) (hy21 : (ops[21]?).bind (·.dst) = some 64) {L : Array Bool} {a : Act} {w : World} {o : Oper} (ho : ops[31]? = some o) (hat : OpAt md 31 o) (lk : ∀ j ∈ need 31, L.getD j false = true) (h0 : L.getD 31 true = false) (hs : L.size = 39) (hI : Inv p w0 L a w) :
    wpOp Tryd.prog ops Q 31 (fun a' w' => Inv p w0 (L.setIfInBounds 31 true) a' w') a w := by
  obtain ⟨hop, hd, hgd, _⟩ := hat
  obtain ⟨v29, e29, _, f29⟩ := inv_get hI 29 (by decide) (lk 29 (by decide))
  obtain ⟨v30, e30, _, f30⟩ := inv_get hI 30 (by decide) (lk 30 (by decide))
  obtain ⟨v21, _, t21, f21⟩ := inv_get hI 21 (by decide) (lk 21 (by decide))
  obtain rfl : v21 = .bool true := f21
  have hw : Region.wanted o (yielded ops a.tmps) = true := wanted_at hgd (yields_at hy21 t21)
  have hif : L.getD 31 false = false := by
    rw [Array.getD_eq_getD_getElem?] at h0 ⊢
    rw [Array.getElem?_eq_getElem (by omega)] at h0 ⊢
    simpa using h0
  have hown := f29 hif
  obtain rfl : v30 = SV p.pB := f30
  obtain ⟨i0, hi, hz0, hz1, hz2⟩ := info_parts info_u8
  have hg := good_at hF.gB hI.2.1
  have hlen := hF.len
  have hbase : p.bS ≤ w.heap.size := by have := hI.2.1.size; have := hF.base; omega
  refine wpOp_wp ho hw (wp_append_rd w (.tmp 72) (.tmp 73) 24 hop p.bS 5 i0 (.int .u8 0) 1 Tryd.underlying24 hi hz0 hz1 hz2 rfl v29 _ _ e29 hown w.heap.size p.pB.A p.pB.l.length p.pB.c (p.pB.l.map B8) e30 (by simp) hg.1 (one8 _) (by unfold maxLen; simp; omega) (by simp; omega) hbase ?_)
  intro v' w' h1 h2 _
  rw [hd]
  have hk := kept_grown hown h2
  have hb : Below w0.heap.size w0 w' := below_app (by rw [← hF.base]; exact hown) hI.2.1 h2
  have hn : Own p w' v' (p.pA.l ++ p.pB.l) := by
    unfold Own
    have e : (p.pA.l ++ p.pB.l) = (p.pA.l ++ p.pB.l) := by simp
    rw [← e, List.length_append, List.map_append]
    exact h1
  have hc := closed_set (i := 31) hI.2.2.1 (fun h => absurd h (by decide)) (fun _ => lk 29 (by decide)) (fun h => absurd h (by decide)) (fun h => absurd h (by decide))
  exact inv_put hI 31 _ (by decide) rfl v' hb hc (fun j u hj hl hu => phi_app (k := 29) (.inr (.inl ⟨rfl, rfl⟩)) hI.2.2.1 hs h0 (lk 29 (by decide)) hl hu hk) (fun _ => hn)

set_option maxRecDepth 10000 in
theorem step32 (_hF : Fit p w0) (hy21 : (ops[21]?).bind (·.dst) = some 64) {L : Array Bool} {a : Act} {w : World} {o : Oper} (ho : ops[32]? = some o) (hat : OpAt md 32 o) (lk : ∀ j ∈ need 32, L.getD j false = true) (_h0 : L.getD 32 true = false) (_hs : L.size = 39) (hI : Inv p w0 L a w) :
    wpOp Tryd.prog ops Q 32 (fun a' w' => Inv p w0 (L.setIfInBounds 32 true) a' w') a w := by
  obtain ⟨hop, hd, hgd, _⟩ := hat
  obtain ⟨v21, _, t21, f21⟩ := inv_get hI 21 (by decide) (lk 21 (by decide))
  obtain rfl : v21 = .bool true := f21
  have hw : Region.wanted o (yielded ops a.tmps) = true := wanted_at hgd (yields_at hy21 t21)
  refine wpOp_value ho hw (run_move hop) ?_
  rw [hd]
  rw [eval_get hI.1.2.2.2.2.1]
  exact inv_plain hI 32 _ (by decide) rfl _ (Below.refl _ _) (fun h => absurd h (by decide)) (fun h => absurd h (by decide)) (fun h => absurd h (by decide)) (fun h => absurd h (by decide)) rfl

set_option maxRecDepth 10000 in
theorem step33 (hF : Fit p w0) (hy21 : (ops[21]?).bind (·.dst) = some 64) {L : Array Bool} {a : Act} {w : World} {o : Oper} (ho : ops[33]? = some o) (hat : OpAt md 33 o) (lk : ∀ j ∈ need 33, L.getD j false = true) (h0 : L.getD 33 true = false) (hs : L.size = 39) (hI : Inv p w0 L a w) :
    wpOp Tryd.prog ops Q 33 (fun a' w' => Inv p w0 (L.setIfInBounds 33 true) a' w') a w := by
  obtain ⟨hop, hd, hgd, _⟩ := hat
  obtain ⟨v31, e31, _, f31⟩ := inv_get hI 31 (by decide) (lk 31 (by decide))
  obtain ⟨v32, e32, _, f32⟩ := inv_get hI 32 (by decide) (lk 32 (by decide))
  obtain ⟨v21, _, t21, f21⟩ := inv_get hI 21 (by decide) (lk 21 (by decide))
  obtain rfl : v21 = .bool true := f21
  have hw : Region.wanted o (yielded ops a.tmps) = true := wanted_at hgd (yields_at hy21 t21)
  have hif : L.getD 33 false = false := by
    rw [Array.getD_eq_getD_getElem?] at h0 ⊢
    rw [Array.getElem?_eq_getElem (by omega)] at h0 ⊢
    simpa using h0
  have hown := f31 hif
  obtain rfl : v32 = SV p.pC := f32
  obtain ⟨i0, hi, hz0, hz1, hz2⟩ := info_parts info_u8
  have hg := good_at hF.gC hI.2.1
  have hlen := hF.len
  have hbase : p.bS ≤ w.heap.size := by have := hI.2.1.size; have := hF.base; omega
  refine wpOp_wp ho hw (wp_append_rd w (.tmp 74) (.tmp 75) 24 hop p.bS 5 i0 (.int .u8 0) 1 Tryd.underlying24 hi hz0 hz1 hz2 rfl v31 _ _ e31 hown w.heap.size p.pC.A p.pC.l.length p.pC.c (p.pC.l.map B8) e32 (by simp) hg.1 (one8 _) (by unfold maxLen; simp; omega) (by simp; omega) hbase ?_)
  intro v' w' h1 h2 _
  rw [hd]
  have hk := kept_grown hown h2
  have hb : Below w0.heap.size w0 w' := below_app (by rw [← hF.base]; exact hown) hI.2.1 h2
  have hn : Own p w' v' (p.pA.l ++ p.pB.l ++ p.pC.l) := by
    unfold Own
    have e : ((p.pA.l ++ p.pB.l) ++ p.pC.l) = (p.pA.l ++ p.pB.l ++ p.pC.l) := by simp
    rw [← e, List.length_append, List.map_append]
    exact h1
  have hc := closed_set (i := 33) hI.2.2.1 (fun h => absurd h (by decide)) (fun h => absurd h (by decide)) (fun _ => lk 31 (by decide)) (fun h => absurd h (by decide))
  exact inv_put hI 33 _ (by decide) rfl v' hb hc (fun j u hj hl hu => phi_app (k := 31) (.inr (.inr ⟨rfl, rfl⟩)) hI.2.2.1 hs h0 (lk 31 (by decide)) hl hu hk) hn

set_option maxRecDepth 10000 in
theorem step34 (_hF : Fit p w0) (hy21 : (ops[21]?).bind (·.dst) = some 64) {L : Array Bool} {a : Act} {w : World} {o : Oper} (ho : ops[34]? = some o) (hat : OpAt md 34 o) (lk : ∀ j ∈ need 34, L.getD j false = true) (_h0 : L.getD 34 true = false) (_hs : L.size = 39) (hI : Inv p w0 L a w) :
    wpOp Tryd.prog ops Q 34 (fun a' w' => Inv p w0 (L.setIfInBounds 34 true) a' w') a w := by
  obtain ⟨hop, hd, hgd, _⟩ := hat
  obtain ⟨v33, e33, _, f33⟩ := inv_get hI 33 (by decide) (lk 33 (by decide))
  obtain ⟨v21, _, t21, f21⟩ := inv_get hI 21 (by decide) (lk 21 (by decide))
  obtain rfl : v21 = .bool true := f21
  have hw : Region.wanted o (yielded ops a.tmps) = true := wanted_at hgd (yields_at hy21 t21)
  obtain ⟨A, c, rfl, h1, h2, _⟩ := own_slice f33
  refine wpOp_value ho hw (run_build1 (q := ⟨A, c, p.pA.l ++ p.pB.l ++ p.pC.l⟩) hop e33) ?_
  rw [hd]
  have hb := (Below.refl w.heap.size w).alloc (Nat.le_refl _) (Obj.cells [SV ⟨A, c, p.pA.l ++ p.pB.l ++ p.pC.l⟩].toArray 24)
  exact inv_plain hI 34 _ (by decide) rfl _ hb (fun h => absurd h (by decide)) (fun h => absurd h (by decide)) (fun h => absurd h (by decide)) (fun _ => lk 33 (by decide)) ⟨⟨A, c, p.pA.l ++ p.pB.l ++ p.pC.l⟩, built_alloc w [SV _] 1 rfl, rfl, good_below ⟨Rd.of_own f33, h1, h2⟩ hb⟩

set_option maxRecDepth 10000 in
theorem step35 (hF : Fit p w0) (hy21 : (ops[21]?).bind (·.dst) = some 64) {L : Array Bool} {a : Act} {w : World} {o : Oper} (ho : ops[35]? = some o) (hat : OpAt md 35 o) (lk : ∀ j ∈ need 35, L.getD j false = true) (_h0 : L.getD 35 true = false) (_hs : L.size = 39) (hI : Inv p w0 L a w) :
    wpOp Tryd.prog ops Q 35 (fun a' w' => Inv p w0 (L.setIfInBounds 35 true) a' w') a w := by
  obtain ⟨hop, hd, hgd, _⟩ := hat
  obtain ⟨v34, e34, _, f34⟩ := inv_get hI 34 (by decide) (lk 34 (by decide))
  obtain ⟨v21, _, t21, f21⟩ := inv_get hI 21 (by decide) (lk 21 (by decide))
  obtain rfl : v21 = .bool true := f21
  have hw : Region.wanted o (yielded ops a.tmps) = true := wanted_at hgd (yields_at hy21 t21)
  refine wpOp_call ho hw (run_call hop rfl) ?_
  rw [show a.eval (.tmp 77) = v34 from e34]
  obtain ⟨q, hb, hq, hgq⟩ := f34
  refine (sum_built [q] v34 w hb (fun x hx => by obtain rfl : x = q := (by simpa using hx); exact hgq) (by simp) (laid_at hF.laid hI.2.1)).mono ?_
  rintro e w2 ⟨rfl, rfl⟩
  refine ⟨_, rfl, ?_⟩
  rw [hd, all1, hq]
  exact inv_plain hI 35 _ (by decide) rfl _ (Below.refl _ _) (fun h => absurd h (by decide)) (fun h => absurd h (by decide)) (fun h => absurd h (by decide)) (fun h => absurd h (by decide)) rfl

set_option maxRecDepth 10000 in
theorem step36 (_hF : Fit p w0) (hy21 : (ops[21]?).bind (·.dst) = some 64) {L : Array Bool} {a : Act} {w : World} {o : Oper} (ho : ops[36]? = some o) (hat : OpAt md 36 o) (lk : ∀ j ∈ need 36, L.getD j false = true) (_h0 : L.getD 36 true = false) (_hs : L.size = 39) (hI : Inv p w0 L a w) :
    wpOp Tryd.prog ops Q 36 (fun a' w' => Inv p w0 (L.setIfInBounds 36 true) a' w') a w := by
  obtain ⟨hop, hd, hgd, _⟩ := hat
  obtain ⟨v26, e26, _, f26⟩ := inv_get hI 26 (by decide) (lk 26 (by decide))
  obtain ⟨v35, e35, _, f35⟩ := inv_get hI 35 (by decide) (lk 35 (by decide))
  obtain ⟨v21, _, t21, f21⟩ := inv_get hI 21 (by decide) (lk 21 (by decide))
  obtain rfl : v21 = .bool true := f21
  have hw : Region.wanted o (yielded ops a.tmps) = true := wanted_at hgd (yields_at hy21 t21)
  obtain rfl : v26 = U (sum (all [p.pA, p.pB, nilP, p.pC])) := f26
  rw [all4] at e26
  obtain rfl : v35 = U (sum (p.pA.l ++ p.pB.l ++ p.pC.l)) := f35
  refine wpOp_value ho hw (run_eql hop e26 e35) ?_
  rw [hd]
  exact inv_plain hI 36 _ (by decide) rfl _ (Below.refl _ _) (fun h => absurd h (by decide)) (fun h => absurd h (by decide)) (fun h => absurd h (by decide)) (fun h => absurd h (by decide)) rfl

set_option maxRecDepth 10000 in
theorem step37 (_hF : Fit p w0) (_hy21 : (ops[21]?).bind (·.dst) = some 64) {L : Array Bool} {a : Act} {w : World} {o : Oper} (ho : ops[37]? = some o) (hat : OpAt md 37 o) (lk : ∀ j ∈ need 37, L.getD j false = true) (_h0 : L.getD 37 true = false) (_hs : L.size = 39) (hI : Inv p w0 L a w) :
    wpOp Tryd.prog ops Q 37 (fun a' w' => Inv p w0 (L.setIfInBounds 37 true) a' w') a w := by
  obtain ⟨hop, hd, hgd, _⟩ := hat
  obtain ⟨v21, e21, _, f21⟩ := inv_get hI 21 (by decide) (lk 21 (by decide))
  obtain ⟨v36, e36, _, f36⟩ := inv_get hI 36 (by decide) (lk 36 (by decide))
  have hw : Region.wanted o (yielded ops a.tmps) = true := wanted_none hgd
  obtain rfl : v21 = .bool true := f21
  obtain rfl : v36 = .bool true := f36
  refine wpOp_value ho hw (run_pick hop e21) ?_
  rw [hd, show a.eval (.tmp 79) = .bool true from e36]
  exact inv_plain hI 37 _ (by decide) rfl _ (Below.refl _ _) (fun h => absurd h (by decide)) (fun h => absurd h (by decide)) (fun h => absurd h (by decide)) (fun h => absurd h (by decide)) rfl

set_option maxRecDepth 10000 in
theorem step38 (_hF : Fit p w0) (_hy21 : (ops[21]?).bind (·.dst) = some 64) {L : Array Bool} {a : Act} {w : World} {o : Oper} (ho : ops[38]? = some o) (hat : OpAt md 38 o) (lk : ∀ j ∈ need 38, L.getD j false = true) (_h0 : L.getD 38 true = false) (_hs : L.size = 39) (hI : Inv p w0 L a w) :
    wpOp Tryd.prog ops Q 38 (fun a' w' => Inv p w0 (L.setIfInBounds 38 true) a' w') a w := by
  obtain ⟨hop, hd, hgd, _⟩ := hat
  obtain ⟨v37, e37, _, f37⟩ := inv_get hI 37 (by decide) (lk 37 (by decide))
  have hw : Region.wanted o (yielded ops a.tmps) = true := wanted_none hgd
  obtain rfl : v37 = .bool true := f37
  refine wpOp_value ho hw (run_assign hop) ?_
  rw [hd, show a.eval (.tmp 80) = .bool true from e37]
  exact inv_plain hI 38 _ (by decide) rfl _ (Below.refl _ _) (fun h => absurd h (by decide)) (fun h => absurd h (by decide)) (fun h => absurd h (by decide)) (fun h => absurd h (by decide)) rfl

/-- Each operation keeps what is known. -/
theorem lin_step (hF : Fit p w0) (hsz : ops.size = 39) (hops : ∀ (i : Nat) (o : Oper), ops[i]? = some o → OpAt md i o) (L : Array Bool) (a : Act) (w : World) (i : Nat) (o : Oper) (ho : ops[i]? = some o) (hall : ∀ e ∈ o.after, Region.binds md e = true → L.getD e.on false = true) (h0 : L.getD i true = false) (hs : L.size = ops.size) (hI : Inv p w0 L a w) :
    wpOp Tryd.prog ops Q i (fun a' w' => Inv p w0 (L.setIfInBounds i true) a' w') a w := by
  have hlt : i < 39 := by rw [← hsz]; exact (Array.getElem?_eq_some_iff.1 ho).1
  have hat := hops i o ho
  have lk : ∀ j ∈ need i, L.getD j false = true := fun j hj => by
    obtain ⟨e, he, rfl, hb⟩ := hat.2.2.2 j hj
    exact hall e he hb
  rw [hsz] at hs
  have hy21 : (ops[21]?).bind (·.dst) = some 64 := by
    have h21 : ops[21]? = some (ops[21]'(by omega)) := Array.getElem?_eq_getElem _
    rw [h21]
    exact (hops 21 _ h21).2.1
  match i, hlt with
  | 0, _ => exact step0 hF hy21 ho hat lk h0 hs hI
  | 1, _ => exact step1 hF hy21 ho hat lk h0 hs hI
  | 2, _ => exact step2 hF hy21 ho hat lk h0 hs hI
  | 3, _ => exact step3 hF hy21 ho hat lk h0 hs hI
  | 4, _ => exact step4 hF hy21 ho hat lk h0 hs hI
  | 5, _ => exact step5 hF hy21 ho hat lk h0 hs hI
  | 6, _ => exact step6 hF hy21 ho hat lk h0 hs hI
  | 7, _ => exact step7 hF hy21 ho hat lk h0 hs hI
  | 8, _ => exact step8 hF hy21 ho hat lk h0 hs hI
  | 9, _ => exact step9 hF hy21 ho hat lk h0 hs hI
  | 10, _ => exact step10 hF hy21 ho hat lk h0 hs hI
  | 11, _ => exact step11 hF hy21 ho hat lk h0 hs hI
  | 12, _ => exact step12 hF hy21 ho hat lk h0 hs hI
  | 13, _ => exact step13 hF hy21 ho hat lk h0 hs hI
  | 14, _ => exact step14 hF hy21 ho hat lk h0 hs hI
  | 15, _ => exact step15 hF hy21 ho hat lk h0 hs hI
  | 16, _ => exact step16 hF hy21 ho hat lk h0 hs hI
  | 17, _ => exact step17 hF hy21 ho hat lk h0 hs hI
  | 18, _ => exact step18 hF hy21 ho hat lk h0 hs hI
  | 19, _ => exact step19 hF hy21 ho hat lk h0 hs hI
  | 20, _ => exact step20 hF hy21 ho hat lk h0 hs hI
  | 21, _ => exact step21 hF hy21 ho hat lk h0 hs hI
  | 22, _ => exact step22 hF hy21 ho hat lk h0 hs hI
  | 23, _ => exact step23 hF hy21 ho hat lk h0 hs hI
  | 24, _ => exact step24 hF hy21 ho hat lk h0 hs hI
  | 25, _ => exact step25 hF hy21 ho hat lk h0 hs hI
  | 26, _ => exact step26 hF hy21 ho hat lk h0 hs hI
  | 27, _ => exact step27 hF hy21 ho hat lk h0 hs hI
  | 28, _ => exact step28 hF hy21 ho hat lk h0 hs hI
  | 29, _ => exact step29 hF hy21 ho hat lk h0 hs hI
  | 30, _ => exact step30 hF hy21 ho hat lk h0 hs hI
  | 31, _ => exact step31 hF hy21 ho hat lk h0 hs hI
  | 32, _ => exact step32 hF hy21 ho hat lk h0 hs hI
  | 33, _ => exact step33 hF hy21 ho hat lk h0 hs hI
  | 34, _ => exact step34 hF hy21 ho hat lk h0 hs hI
  | 35, _ => exact step35 hF hy21 ho hat lk h0 hs hI
  | 36, _ => exact step36 hF hy21 ho hat lk h0 hs hI
  | 37, _ => exact step37 hF hy21 ho hat lk h0 hs hI
  | 38, _ => exact step38 hF hy21 ho hat lk h0 hs hI
  | n + 39, h => exact absurd h (by omega)
/-- Nothing is done yet. -/
theorem none_done (L : Array Bool) (hL : L = Array.replicate 39 false) : Closed L ∧ ∀ (Ph : Nat → Prop) (j : Nat), j < 39 → L.getD j false = true → Ph j := by
  have hf : ∀ j, L.getD j false = true → False := fun j h => by
    subst hL
    rw [Array.getD_eq_getD_getElem?, Array.getElem?_replicate] at h
    split at h <;> simp at h
  exact ⟨⟨fun h => (hf _ h).elim, fun h => (hf _ h).elim, fun h => (hf _ h).elim, fun h => (hf _ h).elim⟩, fun _ j _ h => (hf j h).elim⟩
end
end Go.Proofs.YtajphomdbdgmbaaDoor.LinStep
