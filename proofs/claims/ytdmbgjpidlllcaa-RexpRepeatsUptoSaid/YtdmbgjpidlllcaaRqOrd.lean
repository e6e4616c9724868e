/- The contract of the program's inOrder: the same runes in pairs that rise with gaps between them. Conditions: the pairs lie in memory, each from a rune to one that isn't less; there is one. -/
import Derived.Test.YtdmbgjpidlllcaaRqOth
import Derived.Test.YtdmbgjpidlllcaaRqSort
namespace Go.Proofs.Ytdmbgjpidlllcaa.RqOrd
open Go Go.RowKit Go.Shelf Words AppN Km Mo_ RxSpec RxEq RxMem RxClean RxNode RxSetP RqPlain RqMem RqChunk RegD HpRound RqOth RqSort

attribute [local go_sem] Oper.semAt_some

/-- What a round keeps and makes: the pairs so far, their slice in a box. -/
structure SSt (W0 : World) (Gs : Nat) (q : List (Nat × Nat)) (W : World) : Prop where
  os : W.os = W0.os
  tape : W.tape = W0.tape
  output : W.output = W0.output
  size : W0.heap.size ≤ W.heap.size
  oth : ∀ i, i < W0.heap.size → i ≠ Gs → W.heap[i]? = W0.heap[i]?
  box : ∃ v, W.heap[Gs]? = some (.cells #[v] 76 (0, 0)) ∧ W.ownsRow W0.heap.size 77 2 v q.length ((flatP q).map R32)
theorem SSt.own {W0 : World} {Gs : Nat} {x : List (Nat × Nat)} {W W' : World} {row : Option Nat} (h : SSt W0 Gs x W) (hg : W.grownBy W' row) (hG : Gs < W0.heap.size)
    (hr : ∀ r, row = some r → W0.heap.size ≤ r ∧ ∃ o : Obj, W.heap[r]? = some o ∧ o.isCells = false) : SSt W0 Gs x W' := by
  have hb : ∀ i, i < W0.heap.size → W'.heap[i]? = W.heap[i]? := fun i hi => hg.block i (Nat.lt_of_lt_of_le hi h.size) (fun e => by have := (hr i e.symm).1; omega)
  obtain ⟨v, h1, h2⟩ := h.box
  refine ⟨hg.os.trans h.os, hg.tape.trans h.tape, hg.output.trans h.output, Nat.le_trans h.size hg.size, fun i hi a => (hb i hi).trans (h.oth i hi a), v, (hb Gs hG).trans h1, ?_⟩
  rcases h2.2 with h3 | ⟨g, cap, cur, hv, hb2, hg2, h4⟩
  · exact ⟨h2.1, .inl h3⟩
  · refine ⟨h2.1, .inr ⟨g, cap, cur, hv, hb2, (hg.block g (Array.getElem?_eq_some_iff.1 hg2).1 (fun e => ?_)).trans hg2, h4⟩⟩
    obtain ⟨_, o, ho, hc⟩ := hr g e.symm
    rw [hg2] at ho
    injection ho with ho
    subst ho
    cases hc
theorem info_pair : (Try.prog.info? 77).map (fun i => (i.zero, i.size, i.bytes)) = some (some (.agg #[.int .i32 0, .int .i32 0]), 2, 8) := by kernel_rfl
/-- A pair more behind those that are there. -/
theorem growS {W0 : World} {Gs : Nat} {q : List (Nat × Nat)} {W : World} (hO : SSt W0 Gs q W) (hG : Gs < W0.heap.size) (y z : Nat) (hl : q.length ≤ 300000) (v : Value) (hv : W.heap[Gs]? = some (.cells #[v] 76 (0, 0))) :
    ∃ (A2 : Option Addr) (c2 : Nat) (w2 : World), (Builtin.append_ #[76, 76] 76 #[v, .slice (some ⟨W.heap.size, 0, none⟩) 1 1]).run Try.prog (W.alloc (.cells #[.int .i32 (y : Int), .int .i32 (z : Int)] 77)) = .ok (.slice A2 (q.length + 1) c2) w2 ∧
      w2.cell? ⟨Gs, 0, none⟩ = some v ∧ w2.frozen? ⟨Gs, 0, none⟩ = false ∧ KeepsOthers W (w2.setCell ⟨Gs, 0, none⟩ (.slice A2 (q.length + 1) c2)) ∧ (∀ i, i < W0.heap.size → i ≠ Gs → (w2.setCell ⟨Gs, 0, none⟩ (.slice A2 (q.length + 1) c2)).heap[i]? = W.heap[i]?) ∧
      (∀ i, i < W0.heap.size → w2.heap[i]? = W.heap[i]?) ∧ SSt W0 Gs (q ++ [(y, z)]) (w2.setCell ⟨Gs, 0, none⟩ (.slice A2 (q.length + 1) c2)) := by
  obtain ⟨i0, hi, hz0, hz1, hz2⟩ := info_parts info_pair
  obtain ⟨v', hv', hown⟩ := hO.box
  rw [hv] at hv'
  injection hv' with hv'
  injection hv' with hv' _ _
  injection hv' with hv'
  injection hv' with hv'
  subst hv'
  have hOL : (W.alloc (.cells #[.int .i32 (y : Int), .int .i32 (z : Int)] 77)).ownsRow W0.heap.size 77 2 v q.length ((flatP q).map R32) := hown.alloc _
  have hsz := hO.size
  obtain ⟨v2, w2, hrun, hown2, hg2, _⟩ := run_append_own (P := Try.prog) (W.alloc (.cells #[.int .i32 (y : Int), .int .i32 (z : Int)] 77)) W0.heap.size 76 76 77 i0 _ 2 8 Try.underlying76 hi hz0 hz1 hz2 rfl (by decide) v q.length _ hOL ⟨W.heap.size, 0, none⟩ 1 1 ([y, z].map R32) (by simp) (fun j u hu => by
      rw [add_off, Nat.zero_add]
      exact RxMem.cell_of_row (heap_alloc_new W _) (by simpa [R32] using hu)) (r32_ones _) (by unfold maxLen; omega) (by omega) (by rw [World.size_alloc]; omega)
  obtain ⟨A2, c2, rfl⟩ := own_sl hown2
  have hnG : ∀ x, v.ownBlock = some x → W0.heap.size ≤ x := fun x hx => (hown.lt x hx).1
  have hold : ∀ i, i < W0.heap.size → w2.heap[i]? = W.heap[i]? := fun i hi => (hg2.block i (by rw [World.size_alloc]; omega) (fun h => by have := hnG i h.symm; omega)).trans (Below.heap_alloc _ _ _ (by omega))
  have hb2 : w2.heap[Gs]? = some (.cells #[v] 76 (0, 0)) := (hold Gs hG).trans hv
  have hother : ∀ i, i ≠ Gs → (w2.setCell ⟨Gs, 0, none⟩ (.slice A2 (q.length + 1) c2)).heap[i]? = w2.heap[i]? := fun i hi => heap_setCell_other _ _ _ _ hi
  have hsz2 : W.heap.size ≤ w2.heap.size := by have := hg2.size; rw [World.size_alloc] at this; omega
  refine ⟨A2, c2, w2, hrun, RxMem.cell_of_row hb2 rfl, frozen_of_row _ _ _ _ _ hb2, ⟨by rw [World.size_setCell]; exact hsz2, fun k o hk ho => ?_⟩, fun i hi hne => (hother i hne).trans (hold i hi), hold, ?_⟩
  · have hkG : k ≠ Gs := fun e => by
      rw [e, hv] at hk
      injection hk with hk
      subst hk
      cases ho
    have hkl : k < W.heap.size := (Array.getElem?_eq_some_iff.1 hk).1
    refine (hother k hkG).trans (((hg2.block k (by rw [World.size_alloc]; omega) (fun h => ?_)).trans (Below.heap_alloc _ _ _ hkl)).trans hk)
    rcases hown.2 with ⟨rfl, _⟩ | ⟨g, cap, cur, hv3, hb3, hg3, _⟩
    · cases h
    · rw [hv3] at h
      have h : some k = some g := h
      injection h with h
      rw [← h, hk] at hg3
      injection hg3 with hg3
      subst hg3
      cases ho
  · refine ⟨hg2.os.trans hO.os, hg2.tape.trans hO.tape, hg2.output.trans hO.output, by rw [World.size_setCell]; omega, fun i hi h1 => (hother i h1).trans ((hold i hi).trans (hO.oth i hi h1)), _, heap_setCell_same _ _ 0 _ _ (.slice A2 (q.length + 1) c2) hb2, ?_⟩
    have h9 : w2.ownsRow W0.heap.size 77 2 (.slice A2 (q.length + 1) c2) (q ++ [(y, z)]).length ((flatP (q ++ [(y, z)])).map R32) := by
      rw [flatP_app, List.map_append, List.length_append]; exact hown2
    exact ownsRow_setCell_below h9 (by exact hG) _

/-! ### Joining, pair by pair -/
def mstep (xs : List Nat) (p : Nat × Nat) : List Nat := if 2 ≤ xs.length ∧ p.1 ≤ xs.getD (xs.length - 1) 0 + 1 then xs.set (xs.length - 1) (max (xs.getD (xs.length - 1) 0) p.2) else xs ++ [p.1, p.2]
theorem mfold : ∀ (t : List (Nat × Nat)) (dn : List Nat) (a b : Nat), t.foldl mstep (dn ++ [a, b]) = dn ++ merge a b t
  | [], dn, a, b => by rw [merge]; rfl
  | p :: t, dn, a, b => by
    rw [List.foldl_cons, merge]
    have hl : (dn ++ [a, b]).length = dn.length + 2 := by simp
    have hg : (dn ++ [a, b]).getD (dn.length + 2 - 1) 0 = b := by
      rw [List.getD_eq_getElem?_getD, List.getElem?_append_right (by omega), show dn.length + 2 - 1 - dn.length = 1 by omega]
      rfl
    have hst : (dn ++ [a, b]).set (dn.length + 2 - 1) (max b p.2) = dn ++ [a, max b p.2] := by
      rw [List.set_append_right _ _ (by omega), show dn.length + 2 - 1 - dn.length = 1 by omega]
      rfl
    have hms : mstep (dn ++ [a, b]) p = if p.1 ≤ b + 1 then dn ++ [a, max b p.2] else dn ++ [a, b] ++ [p.1, p.2] := by
      unfold mstep
      rw [hl, hg, hst]
      by_cases h : p.1 ≤ b + 1
      · rw [if_pos ⟨by omega, h⟩, if_pos h]
      · rw [if_neg (fun h2 => h h2.2), if_neg h]
    rw [hms]
    split
    · exact mfold t dn a (max b p.2)
    · rw [mfold t (dn ++ [a, b]) p.1 p.2]; simp
theorem mstart (p : Nat × Nat) (t : List (Nat × Nat)) : (p :: t).foldl mstep [] = merge p.1 p.2 t := by
  rw [List.foldl_cons]
  exact mfold t [] p.1 p.2
theorem mbound : ∀ (n : Nat) (l : List (Nat × Nat)), l.length = n → Vp l → (∀ x ∈ l.foldl mstep [], x ≤ 1114111) ∧ (l.foldl mstep []).length ≤ 2 * n ∧ (l.foldl mstep []).length ≠ 1
  | 0, l, h, _ => by obtain rfl := List.eq_nil_of_length_eq_zero h; simp
  | n + 1, l, h, hV => by
    have hne : l ≠ [] := by intro e; rw [e] at h; cases h
    obtain ⟨q, p, rfl⟩ : ∃ q p, l = q ++ [p] := ⟨l.dropLast, l.getLast hne, (List.dropLast_concat_getLast hne).symm⟩
    obtain ⟨h1, h2, h3⟩ := mbound n q (by simpa using h) (fun x hx => hV x (by simp [hx]))
    have hp := hV p (by simp)
    rw [List.foldl_append, List.foldl_cons, List.foldl_nil]
    generalize q.foldl mstep [] = xs at *
    unfold mstep
    split
    · rename_i hc
      have hlast : xs.getD (xs.length - 1) 0 ≤ 1114111 := by
        rw [List.getD_eq_getElem?_getD, List.getElem?_eq_getElem (show xs.length - 1 < xs.length by omega)]
        exact h1 _ (List.getElem_mem _)
      refine ⟨fun x hx => ?_, by rw [List.length_set]; omega, by rw [List.length_set]; exact h3⟩
      rcases List.mem_or_eq_of_mem_set hx with hx | rfl
      · exact h1 x hx
      · omega
    · refine ⟨fun x hx => ?_, by simp; omega, by simp⟩
      rcases List.mem_append.1 hx with hx | hx
      · exact h1 x hx
      · simp at hx; omega
theorem wrap_nextI {b : Nat} (h : b ≤ 1114111) : IntKind.i32.wrap ((b : Int) + 1) = (b : Int) + 1 ∧ wrap32 ((b : Int) + 1) = (b : Int) + 1 := by
  constructor
  · rw [IntKind.wrap_i32]; omega
  · unfold wrap32; omega
theorem new2 (w : World) (y z : Nat) (e : TypeId) : ∀ j x, ([y, z].map R32)[j]? = some x → (w.alloc (.cells #[.int .i32 (y : Int), .int .i32 (z : Int)] e)).cell? ((⟨w.heap.size, 0, none⟩ : Addr).add j) = some x := fun j u hu => by
  rw [add_off, Nat.zero_add]
  exact RxMem.cell_of_row (heap_alloc_new w _) (by simpa [R32] using hu)
theorem max_cast (x b : Nat) : max (x : Int) (b : Int) = ((max x b : Nat) : Int) := by omega
theorem le_cast {a x : Nat} (h : a ≤ x + 1) : decide ((a : Int) ≤ (x : Int) + 1) = true := decide_eq_true (by omega)
theorem gt_cast {a x : Nat} (h : ¬ a ≤ x + 1) : decide ((a : Int) ≤ (x : Int) + 1) = false := decide_eq_false (by omega)
/-- What holds at the loop's head. -/
def MRel (W : World) (L : List (Nat × Nat)) (v i : Value) (wr : World) : Prop :=
  ∃ j : Nat, j ≤ L.length ∧ i = .int .i64 (j : Int) ∧ Hid (wr.ownsRow W.heap.size 21 1 v ((L.take j).foldl mstep []).length (((L.take j).foldl mstep []).map R32)) ∧ Hid (Below W.heap.size W wr)
def numOf : Value → Nat
  | .int _ n => n.toNat
  | _ => 0
set_option maxHeartbeats 6400000 in
set_option maxRecDepth 100000 in
theorem inOrder_any (ps : List (Nat × Nat)) (A : Option Addr) (c : Nat) (w : World) (hV : Vp ps) (hr : Rd w w.heap.size A ((flatP ps).map R32)) (hc : 2 * ps.length ≤ c) (hcm : c ≤ maxLen) (hL : ps.length ≤ 100000) (h0 : ps ≠ []) :
    Calls Try.prog 53 #[.slice A (2 * ps.length) c] w fun e w' => ∃ v, e = .returned v ∧ w'.ownsRow w.heap.size 21 1 v (clean (flatP ps) false).length ((clean (flatP ps) false).map R32) ∧ Below w.heap.size w w' := by
  obtain ⟨m, hm⟩ : ∃ m, ps.length = m := ⟨_, rfl⟩
  rw [hm] at hc hL ⊢
  obtain ⟨W1, hW1⟩ : ∃ W1, w.alloc (.cells #[.slice none 0 0] 76) = W1 := ⟨_, rfl⟩
  have HW1 := Lib.hid hW1
  have hs1 : W1.heap.size = w.heap.size + 1 := by rw [← hW1]; simp
  have HB1 : Hid (Below w.heap.size w W1) := Lib.hid (by rw [← hW1]; exact (Below.refl _ w).alloc (Nat.le_refl _) _)
  have hGs : W1.heap[w.heap.size]? = some (.cells #[.slice none 0 0] 76 (0, 0)) := by rw [← hW1]; exact heap_alloc_new w _
  obtain ⟨W0, hW0⟩ : ∃ W0, (W1.alloc (.cells #[.slice A (2 * m) c] 31)).alloc (.cells #[.int .i64 2] 3) = W0 := ⟨_, rfl⟩
  have HW0 := Lib.hid hW0
  have hs0 : W0.heap.size = W1.heap.size + 1 + 1 := by rw [← hW0]; simp
  have hB01 : Below W1.heap.size W1 W0 := by rw [← hW0]; exact ((Below.refl _ W1).alloc (Nat.le_refl _) _).alloc (by simp) _
  have hBs : W0.heap[W1.heap.size]? = some (.cells #[.slice A (2 * m) c] 31 (0, 0)) := by rw [← hW0]; exact (Below.heap_alloc _ _ _ (by simp)).trans (heap_alloc_new W1 _)
  have hBn : W0.heap[W1.heap.size + 1]? = some (.cells #[.int .i64 2] 3 (0, 0)) := by
    rw [← hW0]
    have := heap_alloc_new (W1.alloc (.cells #[.slice A (2 * m) c] 31)) (.cells #[.int .i64 2] 3)
    rwa [World.size_alloc] at this
  have HB0 : Hid (Below w.heap.size w W0) := Lib.hid (HB1.out.trans (hB01.mono (by omega)))
  have HM0 : Hid (SSt W0 w.heap.size [] W0) := Lib.hid ⟨rfl, rfl, rfl, Nat.le_refl _, fun _ _ _ => rfl, _, (hB01.block _ (by omega)).trans hGs, World.ownsRow_nil _ _ _ _⟩
  have HBS := Lib.hid (And.intro hBs hBn)
  have HV := Lib.hid hV
  have HPM := Lib.hid hm
  have HRD := Lib.hid hr
  have H0 := Lib.hid h0
  have hA : 0 < m → ∃ b off, A = some ⟨b, off, none⟩ := fun h => by
    obtain ⟨b, off, e, _⟩ := hr (by rw [List.length_map, flatP_len]; omega)
    exact ⟨b, off, e⟩
  have HS := Lib.hid (And.intro hs0 hs1)
  clear hW1 hW0 hGs hBs hBn hB01 hr hV hs0 hs1 hm h0
  obtain ⟨R, hR⟩ : ∃ R, R = clean (flatP ps) false := ⟨_, rfl⟩
  rw [← hR]
  have HR := Lib.hid hR
  clear hR
  refine (callsIn_wide (n := 9)).1 ?_
  refine callsIn_of_wp_marks Try.func53 rfl trivial ?_ rfl
  simp only [Try.ntmps53, List.size_toArray, List.length_cons, List.length_nil, Nat.reduceAdd, Nat.reduceSub, Array.replicate_succ, Array.replicate_zero, List.push_toArray, List.append_toArray, List.nil_append, List.cons_append]
  gi_wp2
  rw [HW1.out]
  refine ⟨trivial, ?_⟩
  gi_at_call 54
  refine (callsIn_wide.2 (chunk_any _ _ _ _)).mono ?_
  rintro e w8 ⟨rfl, rfl⟩
  rw [HW0.out]
  have hseq := chunk_stops Fence.wide 8 trivial rfl (by omega) W1.heap.size (W1.heap.size + 1) c A m (by omega) hc hcm hA W0 HBS.out.1 HBS.out.2
  have hkb : ∀ (W : World) (l : Nat) (o o' : Obj), W0.heap.size ≤ l → W.heap[l]? = some o → o.isCells = false → o.isWalk = false → KpC W1.heap.size (W1.heap.size + 1) W (W.putObj l o') := fun W l o o' hl _ _ _ => ⟨World.putObj_heap_other (by have := HS.out; omega), World.putObj_heap_other (by have := HS.out; omega)⟩
  have hI : OwnFrom W0.heap.size (fun (pre : List (Ix m)) W9 => SSt W0 w.heap.size (pre.map fun y => ps.getD y.1 (0, 0)) W9) := fun s X Y row hs hg hr => SSt.own hs hg (by have := HS.out; omega) hr
  have hIx : ∀ c : Code, OwnFrom W0.heap.size ((fun _ _ _ => False : Code → List (Ix m) → World → Prop) c) := fun _ _ _ _ _ hs _ _ => hs
  gi_wp2
  refine wpIn_rangeFunc_ownF rfl (by omega) (gf := 64) (lb := #[.pointer (some ⟨W1.heap.size, 0, none⟩), .pointer (some ⟨W1.heap.size + 1, 0, none⟩)]) rfl trivial (enters_of Try.func64 (by kernel_rfl) rfl)
    hseq (fun h k => kpC_t h k) hkb (Below.refl _ _) (fun _ => rfl) _ _ hI hIx HM0.out
    (fun x => { tmps := #[.slice A (2 * m) c, undef, .slice none 0 0, .pointer (some ⟨w.heap.size, 0, none⟩), chV A x.1, undef, undef, undef, undef, .slice A (2 * m) c, .func (.func 64) #[] #[.pointer (some ⟨W1.heap.size, 0, none⟩), .pointer (some ⟨W1.heap.size + 1, 0, none⟩)], chV A x.1, undef, undef, undef, undef, undef, undef, undef, undef, undef, undef, undef, undef, undef, undef, undef, undef, undef, undef, undef, undef, undef, undef, undef, undef, undef, undef, undef, undef, undef, undef, undef, undef, undef, undef, undef, undef, undef, undef, undef, undef, undef, undef, undef, undef, undef, undef, undef, undef, undef, undef, undef, undef], defers := [] }) ?assign ?body ?done ?stop
  case assign =>
    intro l x W9 K hK
    unfold encC at *
    gi_wp2
    exact hK
  case stop =>
    rintro D c pre W _ _ h _
    exact h.elim
  case done =>
    rintro D ys W9 hD hys hI hK
    have hI : SSt W0 w.heap.size (ys.map fun y => ps.getD y.1 (0, 0)) W9 := hI
    have hys : ys.map Subtype.val = List.range m := hys
    have hps : (ys.map fun y => ps.getD y.1 (0, 0)) = ps := by
      have e1 : (ys.map fun y => ps.getD y.1 (0, 0)) = (ys.map Subtype.val).map fun k => ps.getD k (0, 0) := by rw [List.map_map]; rfl
      rw [e1, hys, ← HPM.out]
      refine List.ext_getElem (by simp) fun k h1 h2 => ?_
      rw [List.getElem_map, List.getElem_range, List.getD_eq_getElem?_getD, List.getElem?_eq_getElem h2]
      rfl
    rw [hps] at hI
    have hG : w.heap.size < W0.heap.size := by have := HS.out; omega
    obtain ⟨v, hvb, hown⟩ := hI.box
    have el : W9.cell? ⟨w.heap.size, 0, none⟩ = some v := RxMem.cell_of_row hvb rfl
    obtain ⟨gs, cap, rfl, hgb, cur9, hgsc⟩ : ∃ gs cap, v = .slice (some ⟨gs, 0, none⟩) ps.length cap ∧ W0.heap.size ≤ gs ∧ ∃ cur, W9.heap[gs]? = some (.cells cur 77 (0, 0)) := by
      rcases hown.2 with ⟨_, h9⟩ | ⟨g, cap, cur, hv, hb, hg9, _⟩
      · exact absurd (List.eq_nil_of_length_eq_zero h9) H0.out
      · exact ⟨g, cap, hv, hb, cur, hg9⟩
    have HSO := sort_any W9 W0.heap.size gs cap ps hown (by have := HPM.out; omega)
    have HHI := Lib.hid hI
    gi_wp2_with (fail)
    refine ⟨trivial, ?_⟩
    refine (callsIn_wide.2 HSO).mono ?_
    rintro e W10 ⟨rfl, L, hperm, hsort, hownL, hgr⟩
    have hb10 : ∀ i, i < W0.heap.size → W10.heap[i]? = W9.heap[i]? := fun i hi => hgr.block i (Nat.lt_of_lt_of_le hi HHI.out.size) (fun e => by injection e with e; omega)
    have hGs10 : W10.heap[w.heap.size]? = some (.cells #[.slice (some ⟨gs, 0, none⟩) ps.length cap] 76 (0, 0)) := (hb10 _ hG).trans hvb
    have el10 : W10.cell? ⟨w.heap.size, 0, none⟩ = some (.slice (some ⟨gs, 0, none⟩) ps.length cap) := RxMem.cell_of_row hGs10 rfl
    clear el HSO hvb hown
    gi_wp2_with (fail)
    refine wpIn_wide.2 ?_
    have HVL : Hid (Vp L) := Lib.hid fun p hp => HV.out p (hperm.mem_iff.1 hp)
    have hLm : L.length = ps.length := hperm.length_eq
    have hlm1 : L.length ≤ m := by have := hLm.trans HPM.out; omega
    have hlm2 : m ≤ L.length := by have := hLm.trans HPM.out; omega
    rw [← hLm] at el10 ⊢
    have HOL := Lib.hid hownL
    have hgslt : gs < W10.heap.size := by
      obtain ⟨g9, cap9, e9, _, h9⟩ := hownL.form (by have := H0.out; rw [hLm]; exact List.length_pos_iff.2 this)
      injection e9 with e9 _ _
      injection e9 with e9
      injection e9 with e9
      rw [e9]; exact h9
    have HFIN : Hid (L.foldl mstep [] = R) := Lib.hid (by
      rw [HR.out]
      cases L with
      | nil => exact absurd (List.eq_nil_of_length_eq_zero (by simpa using hLm.symm)) H0.out
      | cons p t => rw [mstart]; exact merge_clean HV.out hperm hsort)
    have HB10 : Hid (Below w.heap.size w W10 ∧ W10.heap[D]? = some (.deferred (some [])) ∧ D < W10.heap.size) := Lib.hid (by
      have hD9 : D < W9.heap.size := (Array.getElem?_eq_some_iff.1 hK).1
      have hne : D ≠ gs := fun e => by
        rw [e, hgsc] at hK
        cases hK
      exact ⟨⟨hgr.os.trans (HHI.out.os.trans HB0.out.os), hgr.tape.trans (HHI.out.tape.trans HB0.out.tape), hgr.output.trans (HHI.out.output.trans HB0.out.output), Nat.le_trans HB0.out.size (Nat.le_trans HHI.out.size hgr.size), fun i hi => (hb10 i (by omega)).trans ((HHI.out.oth i (by omega) (by omega)).trans (HB0.out.block i hi))⟩, (hgr.block D hD9 (fun e => by injection e with e; exact hne e)).trans hK, Nat.lt_of_lt_of_le hD9 hgr.size⟩)
    obtain ⟨i0, hi, hz0, hz1, hz2⟩ := info_i32
    clear hownL hperm hsort hgr hb10 hGs10 hps hys hK HHI hLm hseq hkb hIx hgsc
    go_wp2
    go_loopw [5, 26] (fun v i wr => MRel W10 L v i wr) (fun _ i _ => m - numOf i)
    case atStart => exact ⟨0, Nat.zero_le _, rfl, Lib.hid (World.ownsRow_nil _ _ _ _), Lib.hid (Below.refl _ _)⟩
    case round =>
      obtain ⟨j, hj, rfl, HO, HB⟩ := hrel
      obtain ⟨A5, c5, hv5⟩ := own_sl HO.out
      subst hv5
      by_cases hlt : j < L.length
      · have hjm : j < m := by omega
        obtain ⟨hb1, hb2, hb3⟩ := mbound j (L.take j) (by rw [List.length_take]; omega) (fun p hp => HVL.out p (List.mem_of_mem_take hp))
        have hpj := HVL.out _ (List.getElem_mem hlt)
        have hat := flatP_at L j hlt
        have HNX : Hid ((L.take (j + 1)).foldl mstep [] = mstep ((L.take j).foldl mstep []) L[j]) := Lib.hid (by rw [List.take_succ_eq_append_getElem hlt, List.foldl_append]; rfl)
        generalize (L.take j).foldl mstep [] = xs at *
        generalize L[j] = pj at *
        obtain ⟨a, b⟩ := pj
        simp only at hpj hat
        obtain ⟨n, hn⟩ : ∃ n, xs.length = n := ⟨_, rfl⟩
        have HLN := Lib.hid hn
        have z0 : wr.cell? ⟨gs, j * 2, none⟩ = some (.int .i32 (a : Int)) := by
          rw [Nat.mul_comm j 2]
          rw [World.cell?_of_block (a := ⟨gs, 2 * j, none⟩) (HB.out.block gs hgslt), HOL.out.cellAt (2 * j) (by omega), List.getElem?_map, hat.1]; rfl
        have z1 : wr.cell? ⟨gs, j * 2 + 1, none⟩ = some (.int .i32 (b : Int)) := by
          rw [Nat.mul_comm j 2]
          rw [World.cell?_of_block (a := ⟨gs, 2 * j + 1, none⟩) (HB.out.block gs hgslt), HOL.out.cellAt (2 * j + 1) (by omega), List.getElem?_map, hat.2]; rfl
        rw [hn] at HO hb2 hb3 ⊢
        clear hat el10 hn
        have hz : (n : Int) - 1 = (n : Int) - 1 := rfl
        obtain ⟨W4, hW4⟩ : ∃ W4, wr.alloc (.cells #[.int .i32 (a : Int), .int .i32 (b : Int)] 77) = W4 := ⟨_, rfl⟩
        have HW4 := Lib.hid hW4
        have HO4 : Hid (W4.ownsRow W10.heap.size 21 1 (.slice A5 n c5) n (xs.map R32)) := Lib.hid (by rw [← hW4]; exact HO.out.alloc _)
        have HB4 : Hid (Below W10.heap.size W10 W4) := Lib.hid (by rw [← hW4]; exact HB.out.alloc HB.out.size _)
        have q0 : W4.cell? ⟨wr.heap.size, 0, none⟩ = some (.int .i32 (a : Int)) := by rw [← hW4]; exact RxMem.cell_of_row (heap_alloc_new wr _) rfl
        have q1 : W4.cell? ⟨wr.heap.size, 1, none⟩ = some (.int .i32 (b : Int)) := by rw [← hW4]; exact RxMem.cell_of_row (heap_alloc_new wr _) rfl
        have hs4 : W4.heap.size = wr.heap.size + 1 := by rw [← hW4]; exact World.size_alloc _ _
        clear hW4 HB HO
        by_cases hn0 : n = 0
        · subst hn0
          go_wp2
          rw [HW4.out]
          go_quiet (fail)
          have HOX : Hid ((W4.drewN nq).ownsRow W10.heap.size 21 1 (.slice A5 0 c5) 0 (xs.map R32)) := Lib.hid (show (W4.drewN nq).ownsRow _ _ _ _ _ _ from HO4.out)
          have HBX := Lib.hid (RxPeek.below_drewN HB4.out nq)
          have y0 : (W4.drewN nq).cell? ⟨wr.heap.size, 0, none⟩ = some (.int .i32 (a : Int)) := q0
          have y1 : (W4.drewN nq).cell? ⟨wr.heap.size, 1, none⟩ = some (.int .i32 (b : Int)) := q1
          generalize W4.drewN nq = W5 at *
          clear HO4 HB4 q0 q1 hs4 HW4 z0 z1
          have HOA : Hid ((W5.alloc (.cells #[.int .i32 (a : Int), .int .i32 (b : Int)] 21)).ownsRow W10.heap.size 21 1 (.slice A5 0 c5) 0 (xs.map R32)) := Lib.hid (HOX.out.alloc _)
          have hszX := HBX.out.size
          go_wp2_with (at_builtin; refine wpList_append_own_at _ rfl (.tmp 55) (.tmp 60) 31 rfl W10.heap.size 21 i0 (.int .i32 0) 1 4 Try.underlying31 hi hz0 hz1 hz2 rfl (by decide) _ _ _ rfl HOA.out ⟨W5.heap.size, 0, none⟩ 2 2 ([a, b].map R32) rfl (by simp) (new2 _ _ _ _) (r32_ones _) ?c3 ?c4 ?c5 ?_)
          case c3 => unfold maxLen; omega
          case c4 => omega
          case c5 => rw [World.size_alloc]; omega
          intro v6 w6 hown6 hg6 _ hat6
          have HB6 : Hid (Below W10.heap.size W10 w6) := Lib.hid ((HBX.out.alloc hszX _).grown hg6 (by rw [World.size_alloc]; omega) (fun k hk => (HOA.out.lt k hk).1))
          obtain ⟨A6, c6, hv6⟩ := own_sl hown6
          subst hv6
          have HN6 : Hid (w6.ownsRow W10.heap.size 21 1 (.slice A6 (0 + 2) c6) ((L.take (j + 1)).foldl mstep []).length (((L.take (j + 1)).foldl mstep []).map R32)) := Lib.hid (by
            have e9 := HNX.out
            unfold mstep at e9
            rw [HLN.out] at e9
            simp only at e9
            rw [if_neg (by omega)] at e9
            unfold mstep
            rw [e9, List.length_append, List.map_append, HLN.out]
            exact hown6)
          clear hown6 hg6 hat6 HOA
          go_wp2
          go_roundw
          case rel => exact ⟨j + 1, by omega, rfl, HN6, HB6⟩
          case measure => simp [numOf]; omega
        · obtain ⟨k, hk⟩ : ∃ k, n = k + 1 := ⟨n - 1, by omega⟩
          have hk0 : 0 < k := by omega
          subst hk
          obtain ⟨g5, cap5, hv5, hg5, _⟩ := HO4.out.form (by omega)
          injection hv5 with hv5 _ hv6
          subst hv5 hv6
          obtain ⟨x, hx⟩ : ∃ x, xs.getD k 0 = x := ⟨_, rfl⟩
          have hkx : xs[k]? = some x := by
            rw [List.getD_eq_getElem?_getD] at hx
            have := HLN.out
            rw [List.getElem?_eq_getElem (show k < xs.length by omega)] at hx ⊢
            rw [← hx]; rfl
          have hxm : x ≤ 1114111 := hb1 x (List.mem_of_getElem? hkx)
          have pk : W4.cell? ⟨g5, k, none⟩ = some (.int .i32 (x : Int)) := by
            rw [HO4.out.cellAt k (by omega), List.getElem?_map, hkx]; rfl
          have pf : W4.frozen? ⟨g5, k, none⟩ = false := HO4.out.frozenAt k
          obtain ⟨hw1, hw2⟩ := wrap_nextI hxm
          have d0 : decide ((0 : Int) < (k : Int)) = true := decide_eq_true (by omega)
          have d0n : decide (0 < k) = true := decide_eq_true hk0
          have d0p : (0 : Int) < (k : Int) := by omega
          have hkc : (((k + 1 : Nat)) : Int) - 1 = (k : Int) := by omega
          have hcm5 : c5 ≤ maxLen := by
            rcases HO4.out.2 with ⟨e9, _⟩ | ⟨g9, cap9, cur, e9, _, _, _, h9, _⟩
            · cases e9
            · injection e9 with _ _ e9
              rw [e9]; exact h9
          by_cases hax : a ≤ x + 1
          · have d1 := le_cast hax
            have hmx := max_cast x b
            have HMS : Hid ((L.take (j + 1)).foldl mstep [] = xs.set k (max x b)) := Lib.hid (by
              have e9 := HNX.out
              unfold mstep at e9
              rw [HLN.out] at e9
              simp only [Nat.add_sub_cancel] at e9
              rw [hx, if_pos ⟨by omega, hax⟩] at e9
              unfold mstep
              exact e9)
            clear hb1 hkx hx hax HNX hxm
            go_wp2
            rw [HW4.out]
            go_quiet (fail)
            have HOX : Hid ((W4.drewN nq).ownsRow W10.heap.size 21 1 (.slice (some ⟨g5, 0, none⟩) (k + 1) c5) (k + 1) (xs.map R32)) := Lib.hid (show (W4.drewN nq).ownsRow _ _ _ _ _ _ from HO4.out)
            have HBX := Lib.hid (RxPeek.below_drewN HB4.out nq)
            have y0 : (W4.drewN nq).cell? ⟨wr.heap.size, 0, none⟩ = some (.int .i32 (a : Int)) := q0
            have y1 : (W4.drewN nq).cell? ⟨wr.heap.size, 1, none⟩ = some (.int .i32 (b : Int)) := q1
            have y2 : (W4.drewN nq).cell? ⟨g5, k, none⟩ = some (.int .i32 (x : Int)) := pk
            have y3 : (W4.drewN nq).frozen? ⟨g5, k, none⟩ = false := pf
            generalize W4.drewN nq = W5 at *
            clear HO4 HB4 q0 q1 hs4 HW4 z0 z1 pk pf
            go_wp2
            obtain ⟨mx, hmxe⟩ : ∃ mx : Int, ((max x b : Nat) : Int) = mx := ⟨_, rfl⟩
            have HMX := Lib.hid hmxe
            rw [hmxe] at hmx
            clear hmxe
            have x0 : W5.drew.cell? ⟨wr.heap.size, 0, none⟩ = some (.int .i32 (a : Int)) := y0
            have x1 : W5.drew.cell? ⟨wr.heap.size, 1, none⟩ = some (.int .i32 (b : Int)) := y1
            have x2 : W5.drew.cell? ⟨g5, k, none⟩ = some (.int .i32 (x : Int)) := y2
            have x3 : W5.drew.frozen? ⟨g5, k, none⟩ = false := y3
            have hkk : (k : Int) < (k : Int) + 1 := by omega
            have hkk2 : k < k + 1 := by omega
            refine wp_region_still_tail 10 (by kernel_rfl) (by kernel_rfl) ?_
            simp only [List.take_succ_cons, List.take_zero, List.drop_succ_cons, List.drop_zero]
            iterate 10 (refine wpStill_step (fun K hK => ?_); go_simp; refine hK _ ?_; clear hK K)
            refine wpStill_nil ?_
            change wpList _ _ _ _ _ W5.drew
            have HN6 : Hid ((W5.drew.setCell ⟨g5, k, none⟩ (.int .i32 mx)).ownsRow W10.heap.size 21 1 (.slice (some ⟨g5, 0, none⟩) (k + 1) c5) ((L.take (j + 1)).foldl mstep []).length (((L.take (j + 1)).foldl mstep []).map R32)) := Lib.hid (by
              rw [HMS.out, List.length_set, HLN.out, List.map_set]
              have h9 := (HOX.out.stored k (R32 (max x b))).1
              rw [← HMX.out]
              exact h9)
            have HB6 : Hid (Below W10.heap.size W10 (W5.drew.setCell ⟨g5, k, none⟩ (.int .i32 mx))) := Lib.hid ((below_drew1 HBX.out).grown ((show W5.drew.ownsRow W10.heap.size 21 1 (.slice (some ⟨g5, 0, none⟩) (k + 1) c5) (k + 1) (xs.map R32) from HOX.out).stored k (.int .i32 mx)).2 HBX.out.size (fun q hq => by injection hq with hq; omega))
            clear y0 y1 y2 y3
            go_wp2
            go_roundw
            case rel => exact ⟨j + 1, by omega, rfl, HN6, HB6⟩
            case measure => simp [numOf]; omega
          · have d1 := gt_cast hax
            have hneg : ¬ (2 ≤ k + 1 ∧ a ≤ xs.getD (k + 1 - 1) 0 + 1) := fun h9 => hax (by
              have := h9.2
              rw [Nat.add_sub_cancel, hx] at this
              exact this)
            clear hb1 hkx hx hax hxm
            go_wp2
            rw [HW4.out]
            go_quiet (fail)
            have HOX : Hid ((W4.drewN nq).ownsRow W10.heap.size 21 1 (.slice (some ⟨g5, 0, none⟩) (k + 1) c5) (k + 1) (xs.map R32)) := Lib.hid (show (W4.drewN nq).ownsRow _ _ _ _ _ _ from HO4.out)
            have HBX := Lib.hid (RxPeek.below_drewN HB4.out nq)
            have y0 : (W4.drewN nq).cell? ⟨wr.heap.size, 0, none⟩ = some (.int .i32 (a : Int)) := q0
            have y1 : (W4.drewN nq).cell? ⟨wr.heap.size, 1, none⟩ = some (.int .i32 (b : Int)) := q1
            generalize W4.drewN nq = W5 at *
            clear HO4 HB4 q0 q1 hs4 HW4 z0 z1 pk pf
            have HOA : Hid ((W5.alloc (.cells #[.int .i32 (a : Int), .int .i32 (b : Int)] 21)).ownsRow W10.heap.size 21 1 (.slice (some ⟨g5, 0, none⟩) (k + 1) c5) (k + 1) (xs.map R32)) := Lib.hid (HOX.out.alloc _)
            have hszX := HBX.out.size
            go_wp2_with (at_builtin; refine wpList_append_own_at _ rfl (.tmp 55) (.tmp 60) 31 rfl W10.heap.size 21 i0 (.int .i32 0) 1 4 Try.underlying31 hi hz0 hz1 hz2 rfl (by decide) _ _ _ rfl HOA.out ⟨W5.heap.size, 0, none⟩ 2 2 ([a, b].map R32) rfl (by simp) (new2 _ _ _ _) (r32_ones _) ?c3 ?c4 ?c5 ?_)
            case c3 => unfold maxLen; omega
            case c4 => omega
            case c5 => rw [World.size_alloc]; omega
            intro v6 w6 hown6 hg6 _ hat6
            have HB6 : Hid (Below W10.heap.size W10 w6) := Lib.hid ((HBX.out.alloc hszX _).grown hg6 (by rw [World.size_alloc]; omega) (fun k hk => (HOA.out.lt k hk).1))
            obtain ⟨A6, c6, hv6⟩ := own_sl hown6
            subst hv6
            have HN6 : Hid (w6.ownsRow W10.heap.size 21 1 (.slice A6 (k + 1 + 2) c6) ((L.take (j + 1)).foldl mstep []).length (((L.take (j + 1)).foldl mstep []).map R32)) := Lib.hid (by
              have e9 := HNX.out
              unfold mstep at e9
              rw [HLN.out] at e9
              simp only at e9
              rw [if_neg hneg] at e9
              unfold mstep
              rw [e9, List.length_append, List.map_append, HLN.out]
              exact hown6)
            clear hown6 hg6 hat6 HOA
            go_wp2
            go_roundw
            case rel => exact ⟨j + 1, by omega, rfl, HN6, HB6⟩
            case measure => simp [numOf]; omega
      · obtain rfl : j = L.length := by omega
        rw [List.take_length, HFIN.out] at HO ⊢
        have HKD : Hid (wr.heap[D]? = some (.deferred (some []))) := Lib.hid ((HB.out.block D HB10.out.2.2).trans HB10.out.2.1)
        have HBW : Hid (Below w.heap.size w wr) := Lib.hid (HB10.out.1.trans (HB.out.mono HB10.out.1.size))
        have HZ : Hid ((wr.putObj D (.deferred none)).ownsRow w.heap.size 21 1 (.slice A5 R.length c5) R.length (R.map R32) ∧ Below w.heap.size w (wr.putObj D (.deferred none))) := Lib.hid (by
          exact ⟨own_monoA (own_putD HO.out HKD.out rfl) HB10.out.1.size, HBW.out.grown (grownBy_putObj' _ D _) HBW.out.size (fun k hk => by cases hk; omega)⟩)
        clear HO HB el10
        go_wp2
        gi_wp2
        refine ⟨by simp, .inl ⟨_, _, rfl, run_takeDeferred HKD.out, ?_⟩⟩
        refine ⟨_, results_tmp rfl _ _ _, ?_⟩
        exact ⟨_, rfl, HZ.out.1, HZ.out.2⟩
  case body =>
    rintro l pre x W9 hI hlen
    obtain ⟨j, hj⟩ := x
    have hI : SSt W0 w.heap.size (pre.map fun y => ps.getD y.1 (0, 0)) W9 := hI
    have hpl : (pre.map fun y => ps.getD y.1 (0, 0)).length = pre.length := by simp
    have hlen : pre.length < m := hlen
    have hjp : j < ps.length := by rw [HPM.out]; exact hj
    have hpr : ((pre ++ [(⟨j, hj⟩ : Ix m)]).map fun y => ps.getD y.1 (0, 0)) = (pre.map fun y => ps.getD y.1 (0, 0)) ++ [ps[j]] := by
      rw [List.map_append, List.map_cons, List.map_nil, List.getD_eq_getElem?_getD, List.getElem?_eq_getElem hjp]; rfl
    have hat := flatP_at ps j hjp
    generalize ps[j] = pj at *
    obtain ⟨a, b⟩ := pj
    simp only at hat
    obtain ⟨q, hxs⟩ : ∃ q, (pre.map fun y => ps.getD y.1 (0, 0)) = q := ⟨_, rfl⟩
    rw [hxs] at hI hpl hpr
    refine wpIn_mono (Q := onlyS fun _ w' => KeepsOthers W9 w' ∧ KpC W1.heap.size (W1.heap.size + 1) W9 w' ∧ SSt W0 w.heap.size (q ++ [(a, b)]) w') ?_ ?_
    case refine_2 =>
      intro e a9 w9 h9
      cases e <;> first | exact h9.elim | skip
      refine ⟨h9.1, h9.2.1, ?_⟩
      show SSt W0 w.heap.size ((pre ++ [(⟨j, hj⟩ : Ix m)]).map fun y => ps.getD y.1 (0, 0)) w9
      rw [hpr]
      exact h9.2.2
    case refine_1 =>
      clear hpr hxs
      have hAA := hA (by omega)
      obtain ⟨g, off, eA, hg, hcell⟩ := HRD.out (by rw [List.length_map, flatP_len]; omega)
      subst eA
      obtain ⟨o, ho⟩ : ∃ o, off + 2 * j = o := ⟨_, rfl⟩
      unfold chV
      simp only [Option.map_some, add_off]
      rw [ho]
      have hG : w.heap.size < W0.heap.size := by have := HS.out; omega
      have hgl := hI.oth g (by omega) (by omega)
      have hblk : W9.heap[g]? = w.heap[g]? := hgl.trans (HB0.out.block g hg)
      have e0 : W9.cell? ⟨g, o, none⟩ = some (.int .i32 (a : Int)) := by
        rw [World.cell?_of_block (a := ⟨g, o, none⟩) hblk, ← ho]
        exact hcell (2 * j) _ (by rw [List.getElem?_map, hat.1]; rfl)
      have e1 : W9.cell? ⟨g, o + 1, none⟩ = some (.int .i32 (b : Int)) := by
        rw [World.cell?_of_block (a := ⟨g, o + 1, none⟩) hblk, ← ho, Nat.add_assoc]
        exact hcell (2 * j + 1) _ (by rw [List.getElem?_map, hat.2]; rfl)
      obtain ⟨v, hvb, hown⟩ := hI.box
      have el : W9.cell? ⟨w.heap.size, 0, none⟩ = some v := RxMem.cell_of_row hvb rfl
      have hsz := hI.size
      have up : ∀ w', Below W9.heap.size W9 w' → w'.cell? ⟨g, o, none⟩ = some (.int .i32 (a : Int)) ∧ w'.cell? ⟨g, o + 1, none⟩ = some (.int .i32 (b : Int)) ∧ w'.cell? ⟨w.heap.size, 0, none⟩ = some v := fun w' hb' => ⟨RxHas.cell_up hb' (p := ⟨g, o, none⟩) (by show g < _; omega) e0, RxHas.cell_up hb' (p := ⟨g, o + 1, none⟩) (by show g < _; omega) e1, RxHas.cell_up hb' (p := ⟨w.heap.size, 0, none⟩) (by show w.heap.size < _; omega) el⟩
      have hI1 : SSt W0 w.heap.size q W9.drew := ⟨hI.os, hI.tape, hI.output, hI.size, hI.oth, hI.box⟩
      have T1 := Lib.hid (up W9.drew (below_drew1 (Below.refl _ _)))
      have T2 := Lib.hid (up (W9.drew.alloc (.cells #[.int .i32 (a : Int), .int .i32 (b : Int)] 77)) ((below_drew1 (Below.refl _ W9)).alloc (Nat.le_refl _) _))
      obtain ⟨A2, c2, w2, hrun, hw2, hfz, hko, hother, hold, hO2⟩ := growS hI1 hG a b (by omega) v hvb
      have hold' : ∀ i, i < W0.heap.size → w2.heap[i]? = W9.heap[i]? := hold
      have T4 : Hid (w2.cell? ⟨g, o, none⟩ = some (.int .i32 (a : Int)) ∧ w2.cell? ⟨g, o + 1, none⟩ = some (.int .i32 (b : Int)) ∧ w2.cell? ⟨w.heap.size, 0, none⟩ = some v) := Lib.hid ⟨(World.cell?_of_block (a := ⟨g, o, none⟩) (hold' g (by omega))).trans e0, (World.cell?_of_block (a := ⟨g, o + 1, none⟩) (hold' g (by omega))).trans e1, hw2⟩
      have RA : Hid ((Builtin.append_ #[76, 76] 76 #[v, .slice (some ⟨W9.heap.size, 0, none⟩) 1 1]).run Try.prog ((W9.alloc (.cells #[.int .i32 (a : Int), .int .i32 (b : Int)] 77)).drew) = .ok (.slice A2 (q.length + 1) c2) w2) := Lib.hid hrun
      obtain ⟨W3, hW3⟩ : ∃ W3, w2.setCell ⟨w.heap.size, 0, none⟩ (.slice A2 (q.length + 1) c2) = W3 := ⟨_, rfl⟩
      rw [hW3] at hko hother hO2
      have HW3 := Lib.hid hW3
      clear hW3
      have HY : Hid (KeepsOthers W9 W3 ∧ KpC W1.heap.size (W1.heap.size + 1) W9 W3 ∧ SSt W0 w.heap.size (q ++ [(a, b)]) W3) := Lib.hid (by
        have hne : W1.heap.size ≠ w.heap.size ∧ W1.heap.size + 1 ≠ w.heap.size ∧ W1.heap.size + 1 < W0.heap.size := by have := HS.out; omega
        exact ⟨⟨hko.1, hko.2⟩, ⟨hother _ (by omega) hne.1, hother _ (by omega) hne.2.1⟩, hO2⟩)
      clear hI hI1 hrun hold hold' hko hother hO2 up hown hvb e0 e1 el hcell hblk hgl hat hpl hlen hsz hjp hAA
      gi_wp2
      refine round_D (fun j => j == 10) (fun w' => w'.cell? ⟨g, o, none⟩ = some (.int .i32 (a : Int)) ∧ w'.cell? ⟨g, o + 1, none⟩ = some (.int .i32 (b : Int)) ∧ w'.cell? ⟨w.heap.size, 0, none⟩ = some v) (by kernel_rfl) (noDefer_all (by kernel_rfl)) (fun ⟨_, _, h⟩ => h) ?_
      refine wpAnyD_take (i := 0) (v := ?_) rfl (by kernel_rfl) (fun _ _ _ h => h) (Or.inl ⟨by kernel_rfl, ?_⟩) T1.out ?_
      rotate_left
      · intro w9 h9
        obtain ⟨t1, t2, t3⟩ := h9
        first | (go_simp; with_reducible rfl) | go_simp
      try simp only [Act.put, List.setIfInBounds_toArray, List.set_cons_zero, List.set_cons_succ, List.getElem_toArray, List.getElem_cons_zero]
      refine wpAnyD_take (i := 1) (v := ?_) rfl (by kernel_rfl) (fun _ _ _ h => h) (Or.inl ⟨by kernel_rfl, ?_⟩) T1.out ?_
      rotate_left
      · intro w9 h9
        obtain ⟨t1, t2, t3⟩ := h9
        first | (go_simp; with_reducible rfl) | go_simp
      try simp only [Act.put, List.setIfInBounds_toArray, List.set_cons_zero, List.set_cons_succ, List.getElem_toArray, List.getElem_cons_succ, List.getElem_cons_zero]
      refine wpAnyD_take (i := 2) (v := ?_) rfl (by kernel_rfl) (fun _ _ _ h => h) (Or.inl ⟨by kernel_rfl, ?_⟩) T1.out ?_
      rotate_left
      · intro w9 h9
        obtain ⟨t1, t2, t3⟩ := h9
        first | (go_simp; with_reducible rfl) | go_simp
      try simp only [Act.put, List.setIfInBounds_toArray, List.set_cons_zero, List.set_cons_succ, List.getElem_toArray, List.getElem_cons_succ, List.getElem_cons_zero]
      refine wpAnyD_take (i := 3) (v := ?_) rfl (by kernel_rfl) (fun _ _ _ h => h) (Or.inl ⟨by kernel_rfl, ?_⟩) T1.out ?_
      rotate_left
      · intro w9 h9
        obtain ⟨t1, t2, t3⟩ := h9
        first | (go_simp; with_reducible rfl) | go_simp
      try simp only [Act.put, List.setIfInBounds_toArray, List.set_cons_zero, List.set_cons_succ, List.getElem_toArray, List.getElem_cons_succ, List.getElem_cons_zero]
      refine wpAnyD_take (i := 4) (v := ?_) rfl (by kernel_rfl) (fun _ _ _ h => h) (Or.inl ⟨by kernel_rfl, ?_⟩) T1.out ?_
      rotate_left
      · intro w9 h9
        obtain ⟨t1, t2, t3⟩ := h9
        first | (go_simp; with_reducible rfl) | go_simp
      try simp only [Act.put, List.setIfInBounds_toArray, List.set_cons_zero, List.set_cons_succ, List.getElem_toArray, List.getElem_cons_succ, List.getElem_cons_zero]
      refine wpAnyD_take (i := 5) (v := ?_) rfl (by kernel_rfl) (fun _ _ _ h => h) (Or.inl ⟨by kernel_rfl, ?_⟩) T1.out ?_
      rotate_left
      · intro w9 h9
        obtain ⟨t1, t2, t3⟩ := h9
        first | (go_simp; with_reducible rfl) | go_simp
      try simp only [Act.put, List.setIfInBounds_toArray, List.set_cons_zero, List.set_cons_succ, List.getElem_toArray, List.getElem_cons_succ, List.getElem_cons_zero]
      refine wpAnyD_take (i := 6) (v := ?_) rfl (by kernel_rfl) (fun _ _ _ h => h) (Or.inl ⟨by kernel_rfl, ?_⟩) T1.out ?_
      rotate_left
      · intro w9 h9
        obtain ⟨t1, t2, t3⟩ := h9
        first | (go_simp; with_reducible rfl) | go_simp
      try simp only [Act.put, List.setIfInBounds_toArray, List.set_cons_zero, List.set_cons_succ, List.getElem_toArray, List.getElem_cons_succ, List.getElem_cons_zero]
      refine wpAnyD_take (i := 7) (v := ?_) rfl (by kernel_rfl) (fun _ _ _ h => h) (Or.inl ⟨by kernel_rfl, ?_⟩) T1.out ?_
      rotate_left
      · intro w9 h9
        obtain ⟨t1, t2, t3⟩ := h9
        first | (go_simp; with_reducible rfl) | go_simp
      try simp only [Act.put, List.setIfInBounds_toArray, List.set_cons_zero, List.set_cons_succ, List.getElem_toArray, List.getElem_cons_succ, List.getElem_cons_zero]
      refine wpAnyD_one (j := 8) (by kernel_rfl) rfl rfl rfl (fun KK hKK => ?_)
      go_simp
      refine hKK.out _ _ T2.out ?_
      clear hKK KK
      try simp only [Act.put, List.setIfInBounds_toArray, List.set_cons_zero, List.set_cons_succ, List.getElem_toArray, List.getElem_cons_succ, List.getElem_cons_zero]
      refine wpAnyD_one (j := 9) (by kernel_rfl) rfl rfl rfl (fun KK hKK => ?_)
      refine RxWant.wp_append_at RA (.tmp 12) (.tmp 20) rfl rfl rfl rfl ?_ ?_
      · with_reducible rfl
      refine hKK.out _ _ T4.out ?_
      clear hKK KK
      try simp only [Act.put, List.setIfInBounds_toArray, List.set_cons_zero, List.set_cons_succ, List.getElem_toArray, List.getElem_cons_succ, List.getElem_cons_zero]
      refine wpAnyD_dep (j := 10) (by kernel_rfl) rfl rfl rfl (fun KK hKK => ?_)
      go_simp
      refine hKK.out _ _ ⟨by kernel_rfl, ?_⟩
      clear hKK KK
      rw [HW3.out]
      exact HY.out
end Go.Proofs.Ytdmbgjpidlllcaa.RqOrd
