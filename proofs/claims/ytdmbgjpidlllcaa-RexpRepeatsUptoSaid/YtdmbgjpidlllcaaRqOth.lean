/- The contract of the program's others: the gaps between the pairs of a class. Conditions: the pairs lie in memory, each from a rune to one that isn't less. -/
import Derived.Test.YtdmbgjpidlllcaaRqChunk
import Derived.Test.YtdmbgjpidlllcaaRqMems
import Derived.Test.YtdmbgjpidlllcaaRxWants
import Derived.Test.YtdmbgjpidlllcaaPlains
import Derived.BigQuiet
import Derived.Deep.RegionHeld3
namespace Go.Proofs.Ytdmbgjpidlllcaa.RqOth
open Go Go.RowKit Go.Shelf Words AppN Km Mo_ RxSpec RxEq RxMem RxClean RxSetP RqPlain RqMem RqChunk RegD HpRound

attribute [local go_sem] Oper.semAt_some

/-! ### Plain -/
def stp (x : Nat × List Nat) (p : Nat × Nat) : Nat × List Nat := (p.2 + 1, if x.1 < p.1 then x.2 ++ [x.1, p.1 - 1] else x.2)
def gaps (q : List (Nat × Nat)) : Nat × List Nat := q.foldl stp (0, [])
theorem gaps_snoc (q : List (Nat × Nat)) (p : Nat × Nat) : gaps (q ++ [p]) = stp (gaps q) p := by unfold gaps; rw [List.foldl_append]; rfl
def fin (x : Nat × List Nat) : List Nat := if x.1 ≤ 1114111 then x.2 ++ [x.1, 1114111] else x.2
theorem fold_oth : ∀ (q : List (Nat × Nat)) (x : Nat × List Nat), fin (q.foldl stp x) = x.2 ++ oth x.1 (flatP q)
  | [], x => by
    unfold fin
    show (if x.1 ≤ 1114111 then _ else _) = x.2 ++ oth x.1 []
    rw [oth]
    · split <;> simp
    · intro a b m h; cases h
  | p :: q, x => by
    rw [List.foldl_cons, fold_oth q, flatP_cons, oth]
    unfold stp
    simp only
    split <;> simp
theorem fin_gaps (q : List (Nat × Nat)) : fin (gaps q) = oth 0 (flatP q) := by
  unfold gaps
  rw [fold_oth]
  rfl
theorem gaps_le : ∀ (n : Nat) (q : List (Nat × Nat)), q.length = n → Vp q → (gaps q).1 ≤ 1114112 ∧ (gaps q).2.length ≤ 2 * q.length
  | 0, q, h, _ => by obtain rfl := List.eq_nil_of_length_eq_zero h; exact ⟨Nat.zero_le _, Nat.le_refl _⟩
  | n + 1, q, h, hV => by
    have hne : q ≠ [] := by intro e; rw [e] at h; cases h
    obtain ⟨q', p, rfl⟩ : ∃ q' p, q = q' ++ [p] := ⟨q.dropLast, q.getLast hne, (List.dropLast_concat_getLast hne).symm⟩
    obtain ⟨_, h2⟩ := gaps_le n q' (by simpa using h) (fun x hx => hV x (by simp [hx]))
    have hp := hV p (by simp)
    rw [gaps_snoc]
    unfold stp
    simp only [List.length_append, List.length_cons, List.length_nil]
    refine ⟨by omega, ?_⟩
    split
    · simp; omega
    · omega

/-! ### The boxes -/
/-- What a round keeps and makes: the gaps so far, their slice in one box, the next rune in the other. -/
structure OSt (W0 : World) (Gl Gf : Nat) (x : Nat × List Nat) (W : World) : Prop where
  os : W.os = W0.os
  tape : W.tape = W0.tape
  output : W.output = W0.output
  size : W0.heap.size ≤ W.heap.size
  oth : ∀ i, i < W0.heap.size → i ≠ Gl → i ≠ Gf → W.heap[i]? = W0.heap[i]?
  boxf : W.heap[Gf]? = some (.cells #[.int .i32 (x.1 : Int)] 21 (0, 0))
  boxl : ∃ v, W.heap[Gl]? = some (.cells #[v] 31 (0, 0)) ∧ W.ownsRow W0.heap.size 21 1 v x.2.length (x.2.map R32)
theorem OSt.own {W0 : World} {Gl Gf : Nat} {x : Nat × List Nat} {W W' : World} {row : Option Nat} (h : OSt W0 Gl Gf x W) (hg : W.grownBy W' row) (hG : Gl < W0.heap.size ∧ Gf < W0.heap.size)
    (hr : ∀ r, row = some r → W0.heap.size ≤ r ∧ ∃ o : Obj, W.heap[r]? = some o ∧ o.isCells = false) : OSt W0 Gl Gf x W' := by
  have hb : ∀ i, i < W0.heap.size → W'.heap[i]? = W.heap[i]? := fun i hi => hg.block i (Nat.lt_of_lt_of_le hi h.size) (fun e => by have := (hr i e.symm).1; omega)
  obtain ⟨v, h1, h2⟩ := h.boxl
  refine ⟨hg.os.trans h.os, hg.tape.trans h.tape, hg.output.trans h.output, Nat.le_trans h.size hg.size, fun i hi a b => (hb i hi).trans (h.oth i hi a b), (hb Gf hG.2).trans h.boxf, v, (hb Gl hG.1).trans h1, ?_⟩
  rcases h2.2 with h3 | ⟨g, cap, cur, hv, hb2, hg2, h4⟩
  · exact ⟨h2.1, .inl h3⟩
  · refine ⟨h2.1, .inr ⟨g, cap, cur, hv, hb2, (hg.block g (Array.getElem?_eq_some_iff.1 hg2).1 (fun e => ?_)).trans hg2, h4⟩⟩
    obtain ⟨_, o, ho, hc⟩ := hr g e.symm
    rw [hg2] at ho
    injection ho with ho
    subst ho
    cases hc

theorem round_D {P : Program} {ops : Array Oper} {Q : Exit → Act → World → Prop} {r n id : Nat} {a : Act} {w : World} (dep : Nat → Bool) (S : World → Prop) (hm : P.follows .mixedOrders = true) (hd : ∀ o ∈ ops.toList, ∀ c, o.op ≠ .defer c) (hq : ¬ LetsOut Q)
    (h : wpAnyD P .any ops Q S dep ops.size (Array.replicate ops.size false) a w.drew) : (Code.region id ops true).wpIn (Fence.wide.inRound r) n P Q a w :=
  wpIn_region_any hm (any_round hd hq _ _ _ _ (wpAny_of_D _ _ _ _ h))
theorem below_drew1 {w0 w : World} {B : Nat} (h : Below B w0 w) : Below B w0 w.drew := ⟨h.os, h.tape, h.output, h.size, h.block⟩
theorem then_lets {K : Act → World → Prop} {C : Act → World → Prop} : ¬ LetsOut (Exit.then K (onlyS C)) := fun ⟨_, _, h⟩ => h
/-- Two runes more behind those that are there. -/
theorem grow2 {W0 : World} {Gl Gf f : Nat} {l : List Nat} {W : World} (hO : OSt W0 Gl Gf (f, l) W) (hG : Gl < W0.heap.size ∧ Gf < W0.heap.size ∧ Gl ≠ Gf) (y z : Nat) (hl : l.length ≤ 5000000) (v : Value) (hv : W.heap[Gl]? = some (.cells #[v] 31 (0, 0))) :
    ∃ (A2 : Option Addr) (c2 : Nat) (w2 : World), (Builtin.append_ #[31, 31] 31 #[v, .slice (some ⟨W.heap.size, 0, none⟩) 2 2]).run Try.prog (W.alloc (.cells #[.int .i32 (y : Int), .int .i32 (z : Int)] 21)) = .ok (.slice A2 (l.length + 2) c2) w2 ∧
      w2.cell? ⟨Gl, 0, none⟩ = some v ∧ w2.frozen? ⟨Gl, 0, none⟩ = false ∧ KeepsOthers W (w2.setCell ⟨Gl, 0, none⟩ (.slice A2 (l.length + 2) c2)) ∧ (∀ i, i < W0.heap.size → i ≠ Gl → (w2.setCell ⟨Gl, 0, none⟩ (.slice A2 (l.length + 2) c2)).heap[i]? = W.heap[i]?) ∧
      (∀ i, i < W0.heap.size → w2.heap[i]? = W.heap[i]?) ∧ OSt W0 Gl Gf (f, l ++ [y, z]) (w2.setCell ⟨Gl, 0, none⟩ (.slice A2 (l.length + 2) c2)) := by
  obtain ⟨i0, hi, hz0, hz1, hz2⟩ := info_i32
  obtain ⟨v', hv', hown⟩ := hO.boxl
  rw [hv] at hv'
  injection hv' with hv'
  injection hv' with hv' _ _
  injection hv' with hv'
  injection hv' with hv'
  subst hv'
  simp only at hown
  have hOL : (W.alloc (.cells #[.int .i32 (y : Int), .int .i32 (z : Int)] 21)).ownsRow W0.heap.size 21 1 v l.length (l.map R32) := hown.alloc _
  have hsz := hO.size
  obtain ⟨v2, w2, hrun, hown2, hg2, _⟩ := run_append_own (P := Try.prog) (W.alloc (.cells #[.int .i32 (y : Int), .int .i32 (z : Int)] 21)) W0.heap.size 31 31 21 i0 (.int .i32 0) 1 4 Try.underlying31 hi hz0 hz1 hz2 rfl (by decide) v l.length _ hOL ⟨W.heap.size, 0, none⟩ 2 2 ([y, z].map R32) (by simp) (fun j u hu => by
      rw [add_off, Nat.zero_add]
      exact RxMem.cell_of_row (heap_alloc_new W _) (by simpa [R32] using hu)) (r32_ones _) (by unfold maxLen; omega) (by omega) (by rw [World.size_alloc]; omega)
  obtain ⟨A2, c2, rfl⟩ := own_sl hown2
  have hnG : ∀ x, v.ownBlock = some x → W0.heap.size ≤ x := fun x hx => (hown.lt x hx).1
  have hold : ∀ i, i < W0.heap.size → w2.heap[i]? = W.heap[i]? := fun i hi => (hg2.block i (by rw [World.size_alloc]; omega) (fun h => by have := hnG i h.symm; omega)).trans (Below.heap_alloc _ _ _ (by omega))
  have hb2 : w2.heap[Gl]? = some (.cells #[v] 31 (0, 0)) := (hold Gl hG.1).trans hv
  have hother : ∀ i, i ≠ Gl → (w2.setCell ⟨Gl, 0, none⟩ (.slice A2 (l.length + 2) c2)).heap[i]? = w2.heap[i]? := fun i hi => heap_setCell_other _ _ _ _ hi
  have hsz2 : W.heap.size ≤ w2.heap.size := by have := hg2.size; rw [World.size_alloc] at this; omega
  refine ⟨A2, c2, w2, hrun, RxMem.cell_of_row hb2 rfl, frozen_of_row _ _ _ _ _ hb2, ⟨by rw [World.size_setCell]; exact hsz2, fun k o hk ho => ?_⟩, fun i hi hne => (hother i hne).trans (hold i hi), hold, ?_⟩
  · have hkG : k ≠ Gl := fun e => by
      rw [e, hv] at hk
      injection hk with hk
      subst hk
      cases ho
    have hkl : k < W.heap.size := (Array.getElem?_eq_some_iff.1 hk).1
    refine (hother k hkG).trans (((hg2.block k (by rw [World.size_alloc]; omega) (fun h => ?_)).trans (Below.heap_alloc _ _ _ hkl)).trans hk)
    rcases hown.2 with ⟨rfl, _⟩ | ⟨g, cap, cur, hv3, hb3, hg3, _⟩
    · cases h
    · rw [hv3] at h
      have h : some k = some g := h
      injection h with h
      rw [← h, hk] at hg3
      injection hg3 with hg3
      subst hg3
      cases ho
  · refine ⟨hg2.os.trans hO.os, hg2.tape.trans hO.tape, hg2.output.trans hO.output, by rw [World.size_setCell]; omega, fun i hi h1 h2 => (hother i h1).trans ((hold i hi).trans (hO.oth i hi h1 h2)), (hother Gf (fun e => hG.2.2 e.symm)).trans ((hold Gf hG.2.1).trans hO.boxf), _, heap_setCell_same _ _ 0 _ _ (.slice A2 (l.length + 2) c2) hb2, ?_⟩
    have h9 : w2.ownsRow W0.heap.size 21 1 (.slice A2 (l.length + 2) c2) (l ++ [y, z]).length ((l ++ [y, z]).map R32) := by
      rw [List.map_append, List.length_append]; exact hown2
    exact ownsRow_setCell_below h9 (by exact hG.1) _
theorem wrap_next {b : Nat} (h : b ≤ 1114111) : IntKind.i32.wrap ((b : Int) + 1) = ((b + 1 : Nat) : Int) ∧ wrap32 ((b : Int) + 1) = ((b + 1 : Nat) : Int) := by
  constructor
  · rw [IntKind.wrap_i32]; omega
  · unfold wrap32; omega
theorem wrap_last {a f : Nat} (h : f < a) (h2 : a ≤ 1114111) : IntKind.i32.wrap ((a : Int) - 1) = ((a - 1 : Nat) : Int) ∧ wrap32 ((a : Int) - 1) = ((a - 1 : Nat) : Int) := by
  constructor
  · rw [IntKind.wrap_i32]; omega
  · unfold wrap32; omega
/-- An append whose run is known. -/
theorem wpListIn_append_ran {F : Fence} {n : Nat} {P : Program} (w : World) {ops : Array Oper} {rest : List Oper} {o : Oper} {a : Act} {Q : Exit → Act → World → Prop}
    (hg : o.guard = none) (s x : Operand) (t : TypeId) (hop : o.op = Op.call { callee := Callee.builtin Builtin.append, args := #[s, x], argTypes := #[t, t] }) {v xv v' : Value} {w' : World} (hs : a.eval s = v) (hx : a.eval x = xv)
    (hrun : (Builtin.append_ #[t, t] o.type #[v, xv]).run P w = .ok v' w') (hK : wpListIn F n P ops Q rest (a.put o.dst v') w') : wpListIn F n P ops Q (o :: rest) a w := by
  refine wpListIn_plain hg fun K hK' => ?_
  unfold Oper.wpIn
  refine ⟨?_, ?_⟩
  · simp [Oper.about, hop, resolve, Target.leads, Sem.run_pure]
  · rw [Oper.semAt_plain F _ _ (by rw [hop]; intro c hc'; cases hc')]
    simp [execOp, hop, resolve, invoke, builtin, hs, hx, hrun, Result.andThen]
    exact hK' _ _ hK
theorem own_putD {W : World} {base sz : Nat} {e : TypeId} {v : Value} {n : Nat} {xs : List Value} {D : Nat} {o o' : Obj} (h : W.ownsRow base e sz v n xs) (hD : W.heap[D]? = some o) (ho : o.isCells = false) : (W.putObj D o').ownsRow base e sz v n xs :=
  ⟨h.1, h.2.imp id fun ⟨g, cap, cur, hv, hb, hg, h4⟩ => ⟨g, cap, cur, hv, hb, (World.putObj_heap_other (by
    intro e
    subst e
    rw [hD] at hg
    injection hg with hg
    subst hg
    cases ho)).trans hg, h4⟩⟩
/-- The next rune turns. -/
theorem OSt.putf {W0 : World} {Gl Gf f : Nat} {l : List Nat} {W : World} (h : OSt W0 Gl Gf (f, l) W) (hG : Gl < W0.heap.size ∧ Gf < W0.heap.size ∧ Gl ≠ Gf) (f' : Nat) : OSt W0 Gl Gf (f', l) (W.setCell ⟨Gf, 0, none⟩ (.int .i32 (f' : Int))) ∧ KeepsOthers W (W.setCell ⟨Gf, 0, none⟩ (.int .i32 (f' : Int))) ∧ ∀ i, i ≠ Gf → (W.setCell ⟨Gf, 0, none⟩ (.int .i32 (f' : Int))).heap[i]? = W.heap[i]? := by
  have hother : ∀ i, i ≠ Gf → (W.setCell ⟨Gf, 0, none⟩ (.int .i32 (f' : Int))).heap[i]? = W.heap[i]? := fun i hi => heap_setCell_other _ _ _ _ hi
  obtain ⟨v, h1, h2⟩ := h.boxl
  refine ⟨⟨h.os, h.tape, h.output, by rw [World.size_setCell]; exact h.size, fun i hi a b => (hother i b).trans (h.oth i hi a b), heap_setCell_same _ _ 0 _ _ _ h.boxf, v, (hother Gl hG.2.2).trans h1, ownsRow_setCell_below h2 (by exact hG.2.1) _⟩, ⟨by rw [World.size_setCell]; exact Nat.le_refl _, fun k o hk ho => (hother k (fun e => by
    rw [e, h.boxf] at hk
    injection hk with hk
    subst hk
    cases ho)).trans hk⟩, hother⟩
set_option maxHeartbeats 3200000 in
set_option maxRecDepth 100000 in
theorem others_any (ps : List (Nat × Nat)) (A : Option Addr) (c : Nat) (w : World) (hV : Vp ps) (hr : Rd w w.heap.size A ((flatP ps).map R32)) (hc : 2 * ps.length ≤ c) (hcm : c ≤ maxLen) (hL : ps.length ≤ 2000000) :
    Calls Try.prog 45 #[.slice A (2 * ps.length) c] w fun e w' => ∃ v, e = .returned v ∧ w'.ownsRow w.heap.size 21 1 v (oth 0 (flatP ps)).length ((oth 0 (flatP ps)).map R32) ∧ Below w.heap.size w w' := by
  rw [← fin_gaps]
  obtain ⟨R, hR⟩ : ∃ R, fin (gaps ps) = R := ⟨_, rfl⟩
  rw [hR]
  have HR := Lib.hid hR
  clear hR
  obtain ⟨m, hm⟩ : ∃ m, ps.length = m := ⟨_, rfl⟩
  rw [hm] at hc hL ⊢
  obtain ⟨W1, hW1⟩ : ∃ W1, (w.alloc (.cells #[.slice none 0 0] 31)).alloc (.cells #[.int .i32 0] 21) = W1 := ⟨_, rfl⟩
  have HW1 := Lib.hid hW1
  have hs1 : W1.heap.size = w.heap.size + 2 := by rw [← hW1]; simp
  have HB1 : Hid (Below w.heap.size w W1) := Lib.hid (by rw [← hW1]; exact ((Below.refl _ w).alloc (Nat.le_refl _) _).alloc (by simp) _)
  have hGl : W1.heap[w.heap.size]? = some (.cells #[.slice none 0 0] 31 (0, 0)) := by rw [← hW1]; exact (Below.heap_alloc _ _ _ (by simp)).trans (heap_alloc_new w _)
  have hGf : W1.heap[w.heap.size + 1]? = some (.cells #[.int .i32 0] 21 (0, 0)) := by
    rw [← hW1]
    have := heap_alloc_new (w.alloc (.cells #[.slice none 0 0] 31)) (.cells #[.int .i32 0] 21)
    rwa [World.size_alloc] at this
  obtain ⟨W0, hW0⟩ : ∃ W0, (W1.alloc (.cells #[.slice A (2 * m) c] 31)).alloc (.cells #[.int .i64 2] 3) = W0 := ⟨_, rfl⟩
  have HW0 := Lib.hid hW0
  have hs0 : W0.heap.size = W1.heap.size + 1 + 1 := by rw [← hW0]; simp
  have hB01 : Below W1.heap.size W1 W0 := by rw [← hW0]; exact ((Below.refl _ W1).alloc (Nat.le_refl _) _).alloc (by simp) _
  have hBs : W0.heap[W1.heap.size]? = some (.cells #[.slice A (2 * m) c] 31 (0, 0)) := by rw [← hW0]; exact (Below.heap_alloc _ _ _ (by simp)).trans (heap_alloc_new W1 _)
  have hBn : W0.heap[W1.heap.size + 1]? = some (.cells #[.int .i64 2] 3 (0, 0)) := by
    rw [← hW0]
    have := heap_alloc_new (W1.alloc (.cells #[.slice A (2 * m) c] 31)) (.cells #[.int .i64 2] 3)
    rwa [World.size_alloc] at this
  have HB0 : Hid (Below w.heap.size w W0) := Lib.hid (HB1.out.trans (hB01.mono (by omega)))
  have HM0 : Hid (OSt W0 w.heap.size (w.heap.size + 1) (0, []) W0) := Lib.hid ⟨rfl, rfl, rfl, Nat.le_refl _, fun _ _ _ _ => rfl, (hB01.block _ (by omega)).trans hGf, _, (hB01.block _ (by omega)).trans hGl, World.ownsRow_nil _ _ _ _⟩
  have HBS := Lib.hid (And.intro hBs hBn)
  have HV := Lib.hid hV
  have HPM := Lib.hid hm
  have HRD := Lib.hid hr
  have hA : 0 < m → ∃ b off, A = some ⟨b, off, none⟩ := fun h => by
    obtain ⟨b, off, e, _⟩ := hr (by rw [List.length_map, flatP_len]; omega)
    exact ⟨b, off, e⟩
  have HS := Lib.hid (And.intro hs0 hs1)
  clear hW1 hW0 hGl hGf hBs hBn hB01 hr hV hs0 hs1 hm
  refine (callsIn_wide (n := 9)).1 ?_
  refine callsIn_of_wp_marks Try.func45 rfl trivial ?_ rfl
  simp only [Try.ntmps45, List.size_toArray, List.length_cons, List.length_nil, Nat.reduceAdd, Nat.reduceSub, Array.replicate_succ, Array.replicate_zero, List.push_toArray, List.append_toArray, List.nil_append, List.cons_append]
  gi_wp2
  rw [HW1.out]
  refine ⟨trivial, ?_⟩
  gi_at_call 54
  refine (callsIn_wide.2 (chunk_any _ _ _ _)).mono ?_
  rintro e w8 ⟨rfl, rfl⟩
  rw [HW0.out]
  have hseq := chunk_stops Fence.wide 8 trivial rfl (by omega) W1.heap.size (W1.heap.size + 1) c A m (by omega) hc hcm hA W0 HBS.out.1 HBS.out.2
  have hkb : ∀ (W : World) (l : Nat) (o o' : Obj), W0.heap.size ≤ l → W.heap[l]? = some o → o.isCells = false → o.isWalk = false → KpC W1.heap.size (W1.heap.size + 1) W (W.putObj l o') := fun W l o o' hl _ _ _ => ⟨World.putObj_heap_other (by have := HS.out; omega), World.putObj_heap_other (by have := HS.out; omega)⟩
  have hI : OwnFrom W0.heap.size (fun (pre : List (Ix m)) W9 => OSt W0 w.heap.size (w.heap.size + 1) (gaps (pre.map fun y => ps.getD y.1 (0, 0))) W9) := fun s X Y row hs hg hr => OSt.own hs hg (by have := HS.out; omega) hr
  have hIx : ∀ c : Code, OwnFrom W0.heap.size ((fun _ _ _ => False : Code → List (Ix m) → World → Prop) c) := fun _ _ _ _ _ hs _ _ => hs
  gi_wp2
  refine wpIn_rangeFunc_ownF rfl (by omega) (gf := 64) (lb := #[.pointer (some ⟨W1.heap.size, 0, none⟩), .pointer (some ⟨W1.heap.size + 1, 0, none⟩)]) rfl trivial (enters_of Try.func64 (by kernel_rfl) rfl)
    hseq (fun h k => kpC_t h k) hkb (Below.refl _ _) (fun _ => rfl) _ _ hI hIx HM0.out
    (fun x => { tmps := #[.slice A (2 * m) c, undef, .slice none 0 0, .pointer (some ⟨w.heap.size, 0, none⟩), .pointer (some ⟨w.heap.size + 1, 0, none⟩), chV A x.1, .slice A (2 * m) c, .func (.func 64) #[] #[.pointer (some ⟨W1.heap.size, 0, none⟩), .pointer (some ⟨W1.heap.size + 1, 0, none⟩)], chV A x.1, undef, undef, undef, undef, undef, undef, undef, undef, undef, undef, undef, undef, undef, undef, undef, undef, undef, undef, undef, undef, undef, undef, undef, undef], defers := [] }) ?assign ?body ?done ?stop
  case assign =>
    intro l x W9 K hK
    unfold encC at *
    gi_wp2
    exact hK
  case stop =>
    rintro D c pre W _ _ h _
    exact h.elim
  case done =>
    rintro D ys W9 hD hys hI hK
    have hI : OSt W0 w.heap.size (w.heap.size + 1) (gaps (ys.map fun y => ps.getD y.1 (0, 0))) W9 := hI
    have hys : ys.map Subtype.val = List.range m := hys
    have hps : (ys.map fun y => ps.getD y.1 (0, 0)) = ps := by
      have e1 : (ys.map fun y => ps.getD y.1 (0, 0)) = (ys.map Subtype.val).map fun k => ps.getD k (0, 0) := by rw [List.map_map]; rfl
      rw [e1, hys, ← HPM.out]
      refine List.ext_getElem (by simp) fun k h1 h2 => ?_
      rw [List.getElem_map, List.getElem_range, List.getD_eq_getElem?_getD, List.getElem?_eq_getElem h2]
      rfl
    rw [hps] at hI
    obtain ⟨hf, hll⟩ := gaps_le _ _ rfl HV.out
    rw [HPM.out] at hll
    generalize gaps ps = xs at *
    obtain ⟨f, l9⟩ := xs
    simp only at hf hll
    have hG : w.heap.size < W0.heap.size ∧ w.heap.size + 1 < W0.heap.size ∧ w.heap.size ≠ w.heap.size + 1 := by have := HS.out; omega
    obtain ⟨v, hvb, hown⟩ := hI.boxl
    have el : W9.cell? ⟨w.heap.size, 0, none⟩ = some v := RxMem.cell_of_row hvb rfl
    have ef : W9.cell? ⟨w.heap.size + 1, 0, none⟩ = some (.int .i32 (f : Int)) := RxMem.cell_of_row hI.boxf rfl
    have hD9 : W0.heap.size ≤ D := hD
    by_cases hfm : f ≤ 1114111
    · have d1 : decide ((f : Int) ≤ 1114111) = true := decide_eq_true (by omega)
      obtain ⟨A2, c2, w2, hrun, hw2, hfz, hko, hother, hold, hO2⟩ := grow2 hI hG f 1114111 (by omega) v hvb
      have hRe : l9 ++ [f, 1114111] = R := by rw [← HR.out]; unfold fin; simp only; rw [if_pos hfm]
      rw [hRe] at hO2
      obtain ⟨W3, hW3⟩ : ∃ W3, w2.setCell ⟨w.heap.size, 0, none⟩ (.slice A2 (l9.length + 2) c2) = W3 := ⟨_, rfl⟩
      rw [hW3] at hko hother hO2
      have HW3 := Lib.hid hW3
      have q1 : W3.cell? ⟨w.heap.size, 0, none⟩ = some (.slice A2 (l9.length + 2) c2) := by
        rw [← hW3]
        exact RxMem.cell_of_row (heap_setCell_same _ _ 0 _ _ _ ((hold _ hG.1).trans hvb)) rfl
      have HK3 := Lib.hid (hko.same D _ hK rfl)
      obtain ⟨v3, h31, h32⟩ := hO2.boxl
      have hv3 : v3 = .slice A2 (l9.length + 2) c2 := by
        have := RxMem.cell_of_row (j := 0) h31 rfl
        rw [q1] at this
        injection this with this
        exact this.symm
      subst hv3
      have HFIN : Hid ((W3.putObj D (.deferred none)).ownsRow w.heap.size 21 1 (.slice A2 (l9.length + 2) c2) R.length (R.map R32) ∧ Below w.heap.size w (W3.putObj D (.deferred none))) := Lib.hid (by
        have hB3 : Below w.heap.size w W3 := ⟨hO2.os.trans HB0.out.os, hO2.tape.trans HB0.out.tape, hO2.output.trans HB0.out.output, Nat.le_trans HB0.out.size hO2.size, fun i hi => (hO2.oth i (by omega) (by omega) (by omega)).trans (HB0.out.block i hi)⟩
        exact ⟨own_monoA (own_putD h32 HK3.out rfl) (Nat.le_of_lt hG.1), hB3.grown (grownBy_putObj' _ D _) hB3.size (fun k hk => by cases hk; omega)⟩)
      have ra : (Builtin.append_ #[31, 31] 31 #[v, .slice (some ⟨W9.heap.size, 0, none⟩) 2 2]).run Try.prog (W9.alloc (.cells #[.int .i32 (f : Int), .int .i32 1114111] 21)) = .ok (.slice A2 (l9.length + 2) c2) w2 := hrun
      clear hO2 hko hother hold hW3 h31 h32 hRe hfm hI hvb hown hK hys hps hf hll hrun
      gi_wp2_with (gi_at_builtin; refine wpListIn_append_ran _ rfl (.tmp 28) (.tmp 30) 31 rfl rfl rfl ra ?_)
      rw [HW3.out]
      gi_wp2
      refine ⟨by simp, .inl ⟨_, _, rfl, run_takeDeferred HK3.out, ?_⟩⟩
      refine ⟨_, results_tmp rfl _ _ _, ?_⟩
      exact ⟨_, rfl, HFIN.out.1, HFIN.out.2⟩
    · have d1 : decide ((f : Int) ≤ 1114111) = false := decide_eq_false (by omega)
      have hRe : l9 = R := by rw [← HR.out]; unfold fin; simp only; rw [if_neg hfm]
      subst hRe
      have HK3 := Lib.hid hK
      have HFIN : Hid ((W9.putObj D (.deferred none)).ownsRow w.heap.size 21 1 v l9.length (l9.map R32) ∧ Below w.heap.size w (W9.putObj D (.deferred none))) := Lib.hid (by
        have hB3 : Below w.heap.size w W9 := ⟨hI.os.trans HB0.out.os, hI.tape.trans HB0.out.tape, hI.output.trans HB0.out.output, Nat.le_trans HB0.out.size hI.size, fun i hi => (hI.oth i (by omega) (by omega) (by omega)).trans (HB0.out.block i hi)⟩
        exact ⟨own_monoA (own_putD hown hK rfl) (Nat.le_of_lt hG.1), hB3.grown (grownBy_putObj' _ D _) hB3.size (fun k hk => by cases hk; omega)⟩)
      clear hI hvb hown hK hys hps hf hll hfm
      gi_wp2
      refine ⟨by simp, .inl ⟨_, _, rfl, run_takeDeferred HK3.out, ?_⟩⟩
      refine ⟨_, results_tmp rfl _ _ _, ?_⟩
      exact ⟨_, rfl, HFIN.out.1, HFIN.out.2⟩
  case body =>
    rintro l pre x W9 hI hlen
    obtain ⟨j, hj⟩ := x
    have hI : OSt W0 w.heap.size (w.heap.size + 1) (gaps (pre.map fun y => ps.getD y.1 (0, 0))) W9 := hI
    have hpl : (pre.map fun y => ps.getD y.1 (0, 0)).length = pre.length := by simp
    have hlen : pre.length < m := hlen
    have hjp : j < ps.length := by rw [HPM.out]; exact hj
    have hpv : Vp (pre.map fun y : Ix m => ps.getD y.1 (0, 0)) := fun p hp => by
      obtain ⟨y, hy, rfl⟩ := List.mem_map.1 hp
      have hyl : y.1 < ps.length := by rw [HPM.out]; exact y.2
      rw [List.getD_eq_getElem?_getD, List.getElem?_eq_getElem hyl]
      exact HV.out _ (List.getElem_mem _)
    have hpr : gaps ((pre ++ [(⟨j, hj⟩ : Ix m)]).map fun y => ps.getD y.1 (0, 0)) = stp (gaps (pre.map fun y => ps.getD y.1 (0, 0))) ps[j] := by
      rw [List.map_append, List.map_cons, List.map_nil, gaps_snoc, List.getD_eq_getElem?_getD, List.getElem?_eq_getElem hjp]; rfl
    obtain ⟨hf, hll⟩ := gaps_le _ _ rfl hpv
    rw [hpl] at hll
    have hpj := HV.out _ (List.getElem_mem hjp)
    have hat := flatP_at ps j hjp
    generalize ps[j] = pj at *
    obtain ⟨a, b⟩ := pj
    simp only at hpj hat
    obtain ⟨xs, hxs⟩ : ∃ xs, gaps (pre.map fun y => ps.getD y.1 (0, 0)) = xs := ⟨_, rfl⟩
    rw [hxs] at hI hf hll hpr
    obtain ⟨f, l9⟩ := xs
    simp only at hf hll
    refine wpIn_mono (Q := onlyS fun _ w' => KeepsOthers W9 w' ∧ KpC W1.heap.size (W1.heap.size + 1) W9 w' ∧ OSt W0 w.heap.size (w.heap.size + 1) (stp (f, l9) (a, b)) w') ?_ ?_
    case refine_2 =>
      intro e a9 w9 h9
      cases e <;> first | exact h9.elim | skip
      refine ⟨h9.1, h9.2.1, ?_⟩
      show OSt W0 w.heap.size (w.heap.size + 1) (gaps ((pre ++ [(⟨j, hj⟩ : Ix m)]).map fun y => ps.getD y.1 (0, 0))) w9
      rw [hpr]
      exact h9.2.2
    case refine_1 =>
      clear hpr hxs
      have hAA := hA (by omega)
      obtain ⟨g, off, eA, hg, hcell⟩ := HRD.out (by rw [List.length_map, flatP_len]; omega)
      subst eA
      obtain ⟨o, ho⟩ : ∃ o, off + 2 * j = o := ⟨_, rfl⟩
      unfold chV
      simp only [Option.map_some, add_off]
      rw [ho]
      have hG : w.heap.size < W0.heap.size ∧ w.heap.size + 1 < W0.heap.size ∧ w.heap.size ≠ w.heap.size + 1 := by have := HS.out; omega
      have hgl := hI.oth g (by omega) (by omega) (by omega)
      have hblk : W9.heap[g]? = w.heap[g]? := hgl.trans (HB0.out.block g hg)
      have e0 : W9.cell? ⟨g, o, none⟩ = some (.int .i32 (a : Int)) := by
        rw [World.cell?_of_block (a := ⟨g, o, none⟩) hblk, ← ho]
        exact hcell (2 * j) _ (by rw [List.getElem?_map, hat.1]; rfl)
      have e1 : W9.cell? ⟨g, o + 1, none⟩ = some (.int .i32 (b : Int)) := by
        rw [World.cell?_of_block (a := ⟨g, o + 1, none⟩) hblk, ← ho, Nat.add_assoc]
        exact hcell (2 * j + 1) _ (by rw [List.getElem?_map, hat.2]; rfl)
      obtain ⟨v, hvb, hown⟩ := hI.boxl
      have el : W9.cell? ⟨w.heap.size, 0, none⟩ = some v := RxMem.cell_of_row hvb rfl
      have ef : W9.cell? ⟨w.heap.size + 1, 0, none⟩ = some (.int .i32 (f : Int)) := RxMem.cell_of_row hI.boxf rfl
      have hsz := hI.size
      have up : ∀ w', Below W9.heap.size W9 w' → w'.cell? ⟨g, o, none⟩ = some (.int .i32 (a : Int)) ∧ w'.cell? ⟨g, o + 1, none⟩ = some (.int .i32 (b : Int)) ∧ w'.cell? ⟨w.heap.size, 0, none⟩ = some v ∧ w'.cell? ⟨w.heap.size + 1, 0, none⟩ = some (.int .i32 (f : Int)) := fun w' hb' => ⟨RxHas.cell_up hb' (p := ⟨g, o, none⟩) (by show g < _; omega) e0, RxHas.cell_up hb' (p := ⟨g, o + 1, none⟩) (by show g < _; omega) e1, RxHas.cell_up hb' (p := ⟨w.heap.size, 0, none⟩) (by show w.heap.size < _; omega) el, RxHas.cell_up hb' (p := ⟨w.heap.size + 1, 0, none⟩) (by show w.heap.size + 1 < _; omega) ef⟩
      have hI1 : OSt W0 w.heap.size (w.heap.size + 1) (f, l9) W9.drew := ⟨hI.os, hI.tape, hI.output, hI.size, hI.oth, hI.boxf, hI.boxl⟩
      have hI2 : OSt W0 w.heap.size (w.heap.size + 1) (f, l9) W9.drew.drew := ⟨hI.os, hI.tape, hI.output, hI.size, hI.oth, hI.boxf, hI.boxl⟩
      have T1 := Lib.hid (up W9.drew (below_drew1 (Below.refl _ _)))
      have T2 := Lib.hid (up W9.drew.drew (below_drew1 (below_drew1 (Below.refl _ _))))
      have T3 := Lib.hid (up (W9.drew.drew.alloc (.cells #[.int .i32 (f : Int), .int .i32 ((a - 1 : Nat) : Int)] 21)) ((below_drew1 (below_drew1 (Below.refl _ W9))).alloc (Nat.le_refl _) _))
      obtain ⟨A2, c2, w2, hrun, hw2, hfz, hko, hother, hold, hO2⟩ := grow2 hI2 hG f (a - 1) (by omega) v hvb
      have hold' : ∀ i, i < W0.heap.size → w2.heap[i]? = W9.heap[i]? := hold
      have T4 : Hid (w2.cell? ⟨g, o, none⟩ = some (.int .i32 (a : Int)) ∧ w2.cell? ⟨g, o + 1, none⟩ = some (.int .i32 (b : Int)) ∧ w2.cell? ⟨w.heap.size, 0, none⟩ = some v ∧ w2.cell? ⟨w.heap.size + 1, 0, none⟩ = some (.int .i32 (f : Int))) := Lib.hid ⟨(World.cell?_of_block (a := ⟨g, o, none⟩) (hold' g (by omega))).trans e0, (World.cell?_of_block (a := ⟨g, o + 1, none⟩) (hold' g (by omega))).trans e1, hw2, (World.cell?_of_block (a := ⟨w.heap.size + 1, 0, none⟩) (hold' _ hG.2.1)).trans ef⟩
      have RA : Hid ((Builtin.append_ #[31, 31] 31 #[v, .slice (some ⟨W9.heap.size, 0, none⟩) 2 2]).run Try.prog ((W9.alloc (.cells #[.int .i32 (f : Int), .int .i32 ((a - 1 : Nat) : Int)] 21)).drew.drew) = .ok (.slice A2 (l9.length + 2) c2) w2) := Lib.hid hrun
      obtain ⟨W3, hW3⟩ : ∃ W3, w2.setCell ⟨w.heap.size, 0, none⟩ (.slice A2 (l9.length + 2) c2) = W3 := ⟨_, rfl⟩
      rw [hW3] at hko hother hO2
      have HW3 := Lib.hid hW3
      clear hW3
      have q1 : W3.cell? ⟨g, o + 1, none⟩ = some (.int .i32 (b : Int)) := (World.cell?_of_block (a := ⟨g, o + 1, none⟩) (hother g (by omega) (by omega))).trans e1
      have qf : W3.frozen? ⟨w.heap.size + 1, 0, none⟩ = false := frozen_of_row _ _ _ _ _ hO2.boxf
      have qc : W3.cell? ⟨w.heap.size + 1, 0, none⟩ = some (.int .i32 (f : Int)) := RxMem.cell_of_row hO2.boxf rfl
      obtain ⟨p1, p2, p3⟩ := hO2.putf hG (b + 1)
      have HY : Hid (KeepsOthers W9 (W3.setCell ⟨w.heap.size + 1, 0, none⟩ (.int .i32 ((b + 1 : Nat) : Int))) ∧ KpC W1.heap.size (W1.heap.size + 1) W9 (W3.setCell ⟨w.heap.size + 1, 0, none⟩ (.int .i32 ((b + 1 : Nat) : Int))) ∧ OSt W0 w.heap.size (w.heap.size + 1) (b + 1, l9 ++ [f, a - 1]) (W3.setCell ⟨w.heap.size + 1, 0, none⟩ (.int .i32 ((b + 1 : Nat) : Int)))) := Lib.hid (by
        have hne : W1.heap.size ≠ w.heap.size ∧ W1.heap.size + 1 ≠ w.heap.size ∧ W1.heap.size ≠ w.heap.size + 1 ∧ W1.heap.size + 1 ≠ w.heap.size + 1 ∧ W1.heap.size + 1 < W0.heap.size := by have := HS.out; omega
        exact ⟨⟨Nat.le_trans hko.1 p2.1, fun k o hk ho => p2.2 k o (hko.2 k o hk ho) ho⟩, ⟨(p3 _ hne.2.2.1).trans (hother _ (by omega) hne.1), (p3 _ hne.2.2.2.1).trans (hother _ (by omega) hne.2.1)⟩, p1⟩)
      have z1 : W9.drew.cell? ⟨g, o + 1, none⟩ = some (.int .i32 (b : Int)) := T1.out.2.1
      have zf : W9.drew.frozen? ⟨w.heap.size + 1, 0, none⟩ = false := frozen_of_row _ _ _ _ _ hI1.boxf
      have zc : W9.drew.cell? ⟨w.heap.size + 1, 0, none⟩ = some (.int .i32 (f : Int)) := T1.out.2.2.2
      obtain ⟨r1, r2, r3⟩ := hI1.putf hG (b + 1)
      have HN : Hid (KeepsOthers W9 (W9.drew.setCell ⟨w.heap.size + 1, 0, none⟩ (.int .i32 ((b + 1 : Nat) : Int))) ∧ KpC W1.heap.size (W1.heap.size + 1) W9 (W9.drew.setCell ⟨w.heap.size + 1, 0, none⟩ (.int .i32 ((b + 1 : Nat) : Int))) ∧ OSt W0 w.heap.size (w.heap.size + 1) (b + 1, l9) (W9.drew.setCell ⟨w.heap.size + 1, 0, none⟩ (.int .i32 ((b + 1 : Nat) : Int)))) := Lib.hid (by
        have hne : W1.heap.size ≠ w.heap.size + 1 ∧ W1.heap.size + 1 ≠ w.heap.size + 1 := by have := HS.out; omega
        exact ⟨⟨r2.1, r2.2⟩, ⟨r3 _ hne.1, r3 _ hne.2⟩, r1⟩)
      obtain ⟨hw1, hw1'⟩ := wrap_next (b := b) hpj.2
      clear hI hI1 hI2 hrun hold hold' hko hother hO2 p1 p2 p3 r1 r2 r3 up hown hvb e0 e1 el ef hcell hblk hgl hpv hat hf hll hpl hlen hsz hjp hAA
      unfold stp
      simp only
      by_cases hfa : f < a
      · rw [if_pos hfa]
        have d1 : decide ((f : Int) < (a : Int)) = true := decide_eq_true (by omega)
        have d2 : decide (f < a) = true := decide_eq_true hfa
        obtain ⟨hw2', hw3'⟩ := wrap_last hfa (Nat.le_trans hpj.1 hpj.2)
        clear HN zc zf z1 hpj hfa
        generalize ((a - 1 : Nat) : Int) = am at *
        generalize ((b + 1 : Nat) : Int) = bp at *
        gi_wp2
        refine round_D (fun _ => false) (fun w' => w'.cell? ⟨g, o, none⟩ = some (.int .i32 (a : Int)) ∧ w'.cell? ⟨g, o + 1, none⟩ = some (.int .i32 (b : Int)) ∧ w'.cell? ⟨w.heap.size, 0, none⟩ = some v ∧ w'.cell? ⟨w.heap.size + 1, 0, none⟩ = some (.int .i32 (f : Int))) (by kernel_rfl) (noDefer_all (by kernel_rfl)) (fun ⟨_, _, h⟩ => h) ?_
        refine wpAnyD_take (i := 0) (v := ?_) rfl (by kernel_rfl) (fun _ _ _ h => h) (Or.inl ⟨by kernel_rfl, ?_⟩) T1.out ?_
        rotate_left
        · intro w9 h9
          obtain ⟨t1, t2, t3, t4⟩ := h9
          first | (go_simp; with_reducible rfl) | go_simp
        try simp only [Act.put, List.setIfInBounds_toArray, List.set_cons_zero, List.set_cons_succ, List.getElem_toArray, List.getElem_cons_zero]
        refine wpAnyD_take (i := 1) (v := ?_) rfl (by kernel_rfl) (fun _ _ _ h => h) (Or.inl ⟨by kernel_rfl, ?_⟩) T1.out ?_
        rotate_left
        · intro w9 h9
          obtain ⟨t1, t2, t3, t4⟩ := h9
          first | (go_simp; with_reducible rfl) | go_simp
        try simp only [Act.put, List.setIfInBounds_toArray, List.set_cons_zero, List.set_cons_succ, List.getElem_toArray, List.getElem_cons_succ, List.getElem_cons_zero]
        refine wpAnyD_take (i := 2) (v := ?_) rfl (by kernel_rfl) (fun _ _ _ h => h) (Or.inl ⟨by kernel_rfl, ?_⟩) T1.out ?_
        rotate_left
        · intro w9 h9
          obtain ⟨t1, t2, t3, t4⟩ := h9
          first | (go_simp; with_reducible rfl) | go_simp
        try simp only [Act.put, List.setIfInBounds_toArray, List.set_cons_zero, List.set_cons_succ, List.getElem_toArray, List.getElem_cons_succ, List.getElem_cons_zero]
        refine wpAnyD_take (i := 3) (v := ?_) rfl (by kernel_rfl) (fun _ _ _ h => h) (Or.inl ⟨by kernel_rfl, ?_⟩) T1.out ?_
        rotate_left
        · intro w9 h9
          obtain ⟨t1, t2, t3, t4⟩ := h9
          first | (go_simp; with_reducible rfl) | go_simp
        try simp only [Act.put, List.setIfInBounds_toArray, List.set_cons_zero, List.set_cons_succ, List.getElem_toArray, List.getElem_cons_succ, List.getElem_cons_zero]
        refine wpAnyD_take (i := 4) (v := ?_) rfl (by kernel_rfl) (fun _ _ _ h => h) (Or.inl ⟨by kernel_rfl, ?_⟩) T1.out ?_
        rotate_left
        · intro w9 h9
          obtain ⟨t1, t2, t3, t4⟩ := h9
          first | (go_simp; with_reducible rfl) | go_simp
        try simp only [Act.put, List.setIfInBounds_toArray, List.set_cons_zero, List.set_cons_succ, List.getElem_toArray, List.getElem_cons_succ, List.getElem_cons_zero]
        refine ⟨by kernel_rfl, ?_⟩
        gi_wp2
        refine round_D (fun j => j == 8) (fun w' => w'.cell? ⟨g, o, none⟩ = some (.int .i32 (a : Int)) ∧ w'.cell? ⟨g, o + 1, none⟩ = some (.int .i32 (b : Int)) ∧ w'.cell? ⟨w.heap.size, 0, none⟩ = some v ∧ w'.cell? ⟨w.heap.size + 1, 0, none⟩ = some (.int .i32 (f : Int))) (by kernel_rfl) (noDefer_all (by kernel_rfl)) (fun ⟨_, _, h⟩ => h) ?_
        refine wpAnyD_take (i := 0) (v := ?_) rfl (by kernel_rfl) (fun _ _ _ h => h) (Or.inl ⟨by kernel_rfl, ?_⟩) T2.out ?_
        rotate_left
        · intro w9 h9
          obtain ⟨t1, t2, t3, t4⟩ := h9
          first | (go_simp; with_reducible rfl) | go_simp
        try simp only [Act.put, List.setIfInBounds_toArray, List.set_cons_zero, List.set_cons_succ, List.getElem_toArray, List.getElem_cons_zero]
        refine wpAnyD_take (i := 1) (v := ?_) rfl (by kernel_rfl) (fun _ _ _ h => h) (Or.inl ⟨by kernel_rfl, ?_⟩) T2.out ?_
        rotate_left
        · intro w9 h9
          obtain ⟨t1, t2, t3, t4⟩ := h9
          first | (go_simp; with_reducible rfl) | go_simp
        try simp only [Act.put, List.setIfInBounds_toArray, List.set_cons_zero, List.set_cons_succ, List.getElem_toArray, List.getElem_cons_succ, List.getElem_cons_zero]
        refine wpAnyD_take (i := 2) (v := ?_) rfl (by kernel_rfl) (fun _ _ _ h => h) (Or.inl ⟨by kernel_rfl, ?_⟩) T2.out ?_
        rotate_left
        · intro w9 h9
          obtain ⟨t1, t2, t3, t4⟩ := h9
          first | (go_simp; with_reducible rfl) | go_simp
        try simp only [Act.put, List.setIfInBounds_toArray, List.set_cons_zero, List.set_cons_succ, List.getElem_toArray, List.getElem_cons_succ, List.getElem_cons_zero]
        refine wpAnyD_take (i := 3) (v := ?_) rfl (by kernel_rfl) (fun _ _ _ h => h) (Or.inl ⟨by kernel_rfl, ?_⟩) T2.out ?_
        rotate_left
        · intro w9 h9
          obtain ⟨t1, t2, t3, t4⟩ := h9
          first | (go_simp; with_reducible rfl) | go_simp
        try simp only [Act.put, List.setIfInBounds_toArray, List.set_cons_zero, List.set_cons_succ, List.getElem_toArray, List.getElem_cons_succ, List.getElem_cons_zero]
        refine wpAnyD_take (i := 4) (v := ?_) rfl (by kernel_rfl) (fun _ _ _ h => h) (Or.inl ⟨by kernel_rfl, ?_⟩) T2.out ?_
        rotate_left
        · intro w9 h9
          obtain ⟨t1, t2, t3, t4⟩ := h9
          first | (go_simp; with_reducible rfl) | go_simp
        try simp only [Act.put, List.setIfInBounds_toArray, List.set_cons_zero, List.set_cons_succ, List.getElem_toArray, List.getElem_cons_succ, List.getElem_cons_zero]
        refine wpAnyD_take (i := 5) (v := ?_) rfl (by kernel_rfl) (fun _ _ _ h => h) (Or.inl ⟨by kernel_rfl, ?_⟩) T2.out ?_
        rotate_left
        · intro w9 h9
          obtain ⟨t1, t2, t3, t4⟩ := h9
          first | (go_simp; with_reducible rfl) | go_simp
        try simp only [Act.put, List.setIfInBounds_toArray, List.set_cons_zero, List.set_cons_succ, List.getElem_toArray, List.getElem_cons_succ, List.getElem_cons_zero]
        refine wpAnyD_one (j := 6) (by kernel_rfl) rfl rfl rfl (fun KK hKK => ?_)
        go_simp
        refine hKK.out _ _ T3.out ?_
        clear hKK KK
        try simp only [Act.put, List.setIfInBounds_toArray, List.set_cons_zero, List.set_cons_succ, List.getElem_toArray, List.getElem_cons_succ, List.getElem_cons_zero]
        refine wpAnyD_one (j := 7) (by kernel_rfl) rfl rfl rfl (fun KK hKK => ?_)
        refine RxWant.wp_append_at RA (.tmp 14) (.tmp 20) rfl rfl rfl rfl ?_ ?_
        · with_reducible rfl
        refine hKK.out _ _ T4.out ?_
        clear hKK KK
        try simp only [Act.put, List.setIfInBounds_toArray, List.set_cons_zero, List.set_cons_succ, List.getElem_toArray, List.getElem_cons_succ, List.getElem_cons_zero]
        refine wpAnyD_dep (j := 8) (by kernel_rfl) rfl rfl rfl (fun KK hKK => ?_)
        go_simp
        refine hKK.out _ _ ⟨by kernel_rfl, ?_⟩
        clear hKK KK
        rw [HW3.out]
        gi_wp2
        exact HY.out
      · rw [if_neg hfa]
        have d1 : decide ((f : Int) < (a : Int)) = false := decide_eq_false (by omega)
        have d2 : decide (f < a) = false := decide_eq_false hfa
        clear HY RA T2 T3 T4 q1 qf qc HW3 hw2 hfz hpj hfa
        generalize ((b + 1 : Nat) : Int) = bp at *
        gi_wp2
        refine round_D (fun _ => false) (fun w' => w'.cell? ⟨g, o, none⟩ = some (.int .i32 (a : Int)) ∧ w'.cell? ⟨g, o + 1, none⟩ = some (.int .i32 (b : Int)) ∧ w'.cell? ⟨w.heap.size, 0, none⟩ = some v ∧ w'.cell? ⟨w.heap.size + 1, 0, none⟩ = some (.int .i32 (f : Int))) (by kernel_rfl) (noDefer_all (by kernel_rfl)) (fun ⟨_, _, h⟩ => h) ?_
        refine wpAnyD_take (i := 0) (v := ?_) rfl (by kernel_rfl) (fun _ _ _ h => h) (Or.inl ⟨by kernel_rfl, ?_⟩) T1.out ?_
        rotate_left
        · intro w9 h9
          obtain ⟨t1, t2, t3, t4⟩ := h9
          first | (go_simp; with_reducible rfl) | go_simp
        try simp only [Act.put, List.setIfInBounds_toArray, List.set_cons_zero, List.set_cons_succ, List.getElem_toArray, List.getElem_cons_zero]
        refine wpAnyD_take (i := 1) (v := ?_) rfl (by kernel_rfl) (fun _ _ _ h => h) (Or.inl ⟨by kernel_rfl, ?_⟩) T1.out ?_
        rotate_left
        · intro w9 h9
          obtain ⟨t1, t2, t3, t4⟩ := h9
          first | (go_simp; with_reducible rfl) | go_simp
        try simp only [Act.put, List.setIfInBounds_toArray, List.set_cons_zero, List.set_cons_succ, List.getElem_toArray, List.getElem_cons_succ, List.getElem_cons_zero]
        refine wpAnyD_take (i := 2) (v := ?_) rfl (by kernel_rfl) (fun _ _ _ h => h) (Or.inl ⟨by kernel_rfl, ?_⟩) T1.out ?_
        rotate_left
        · intro w9 h9
          obtain ⟨t1, t2, t3, t4⟩ := h9
          first | (go_simp; with_reducible rfl) | go_simp
        try simp only [Act.put, List.setIfInBounds_toArray, List.set_cons_zero, List.set_cons_succ, List.getElem_toArray, List.getElem_cons_succ, List.getElem_cons_zero]
        refine wpAnyD_take (i := 3) (v := ?_) rfl (by kernel_rfl) (fun _ _ _ h => h) (Or.inl ⟨by kernel_rfl, ?_⟩) T1.out ?_
        rotate_left
        · intro w9 h9
          obtain ⟨t1, t2, t3, t4⟩ := h9
          first | (go_simp; with_reducible rfl) | go_simp
        try simp only [Act.put, List.setIfInBounds_toArray, List.set_cons_zero, List.set_cons_succ, List.getElem_toArray, List.getElem_cons_succ, List.getElem_cons_zero]
        refine wpAnyD_take (i := 4) (v := ?_) rfl (by kernel_rfl) (fun _ _ _ h => h) (Or.inl ⟨by kernel_rfl, ?_⟩) T1.out ?_
        rotate_left
        · intro w9 h9
          obtain ⟨t1, t2, t3, t4⟩ := h9
          first | (go_simp; with_reducible rfl) | go_simp
        try simp only [Act.put, List.setIfInBounds_toArray, List.set_cons_zero, List.set_cons_succ, List.getElem_toArray, List.getElem_cons_succ, List.getElem_cons_zero]
        refine ⟨by kernel_rfl, ?_⟩
        gi_wp2
        exact HN.out
end Go.Proofs.Ytdmbgjpidlllcaa.RqOth
