/- The program's manifestOf: a manifest made of numbers, its segments in new memory. Conditions: the numbers lie in memory, as many as they say themselves, at most 65536. -/
import Derived.Test.YtjninegpaoblfaaGreatDoorMpNins
import Derived.Test.YtjninegpaoblfaaGreatDoorMpChunk
import Derived.Test.YtjninegpaoblfaaGreatDoorHpRound
import Derived.BigQuiet
import Derived.Deep.RegionHeld3
namespace Go.Proofs.YtjninegpaoblfaaGreatDoor.MpOf
open Go Go.RowKit Go.Shelf Words AppN MfSpec MfMem RefMf RefMw RefMr Zig MfRead RegD MpNin MpPlain MpChunk HpRound

attribute [local go_sem] Oper.semAt_some

section
variable {P : Program} {md : Region.Mode} {ops : Array Oper} {Q : Exit → Act → World → Prop} {S : World → Prop} {dep : Nat → Bool}
/-- Either of two may come up. -/
theorem wpAnyD_two {i j : Nat} {oi oj : Oper} {f : Nat} {L : Array Bool} {a : Act} {w : World} (hr : Region.ready md ops L = [i, j]) (hdi : dep i = false) (hdj : dep j = false) (hi : ops[i]? = some oi) (hgi : oi.guard = none) (hj : ops[j]? = some oj) (hgj : oj.guard = none)
    (h1 : ∀ K : Act → World → Prop, Hid (∀ a' w', S w' → wpAnyD P md ops Q S dep f (L.setIfInBounds i true) a' w' → K a' w') → oi.wp P a w K Q)
    (h2 : ∀ K : Act → World → Prop, Hid (∀ a' w', S w' → wpAnyD P md ops Q S dep f (L.setIfInBounds j true) a' w' → K a' w') → oj.wp P a w K Q) : wpAnyD P md ops Q S dep (f + 1) L a w :=
  ⟨fun h0 => (by rw [hr] at h0; cases h0), fun k hk => by
    rw [hr] at hk
    rcases List.mem_cons.1 hk with rfl | hk
    · exact ⟨fun e => (by rw [hdi] at e; cases e), fun _ => wpOp_alone hi hgi (h1 _ (Lib.hid fun _ _ h1 h2 => ⟨h1, h2⟩))⟩
    · obtain rfl : k = j := by simpa using hk
      exact ⟨fun e => (by rw [hdj] at e; cases e), fun _ => wpOp_alone hj hgj (h2 _ (Lib.hid fun _ _ h1 h2 => ⟨h1, h2⟩))⟩⟩
/-- A region in a round, its order drawn, a condition held. -/
theorem round_D {r n id : Nat} {a : Act} {w : World} (dep : Nat → Bool) (S : World → Prop) (hm : P.follows .mixedOrders = true) (hd : ∀ o ∈ ops.toList, ∀ c, o.op ≠ .defer c) (hq : ¬ LetsOut Q)
    (h : wpAnyD P .any ops Q S dep ops.size (Array.replicate ops.size false) a w.drew) : (Code.region id ops true).wpIn (Fence.wide.inRound r) n P Q a w :=
  wpIn_region_any hm (any_round hd hq _ _ _ _ (wpAny_of_D _ _ _ _ h))
end

/-- 's[5:]'. -/
theorem from5 (b off n c m : Nat) (hn : n = 5 + 4 * m) (hc : n ≤ c) (hm : c ≤ maxLen) : ∃ (A5 : Option Addr) (c5 : Nat), (∀ w : World, (Instr.slice 80 (.slice (some ⟨b, off, none⟩) n c) (some (.int .i64 5)) none none).run Tryz.prog w = .ok (.slice A5 (4 * m) c5) w) ∧
    4 * m ≤ c5 ∧ c5 ≤ maxLen ∧ (0 < m → A5 = some ⟨b, off + 5, none⟩) := by
  refine ⟨if c = 5 then some ⟨b, off, none⟩ else some ⟨b, off + 5, none⟩, c - 5, fun w => ?_, by omega, by omega, fun h => if_neg (by omega)⟩
  unfold maxLen at hm
  have h1 : (5 : Int) ≤ (n : Int) := by omega
  have h2 : n - 5 = 4 * m := by omega
  have h3 : n ≤ c := hc
  clear hn
  by_cases h : c = 5
  · go_simp
  · go_simp

/-- What a round keeps, and what it has made: the segments so far, their slice in the manifest's box. -/
structure MSt (W0 : World) (G : Nat) (K0 K1 : Int) (X2 : UInt64) (K3 : Int) (l : List Sg) (W : World) : Prop where
  os : W.os = W0.os
  tape : W.tape = W0.tape
  output : W.output = W0.output
  size : W0.heap.size ≤ W.heap.size
  oth : ∀ i, i < W0.heap.size → i ≠ G → W.heap[i]? = W0.heap[i]?
  box : ∃ v, Box5 W G (.int .i64 K0) (.int .i64 K1) (.int .u64 (X2.toNat : Int)) (.int .i64 K3) v ∧ W.ownsRow W0.heap.size 65 4 v l.length (flatS l)
theorem MSt.own {W0 : World} {G : Nat} {K0 K1 : Int} {X2 : UInt64} {K3 : Int} {l : List Sg} {W W' : World} {row : Option Nat} (h : MSt W0 G K0 K1 X2 K3 l W) (hg : W.grownBy W' row) (hG : G < W0.heap.size)
    (hr : ∀ r, row = some r → W0.heap.size ≤ r ∧ ∃ o : Obj, W.heap[r]? = some o ∧ o.isCells = false) : MSt W0 G K0 K1 X2 K3 l W' := by
  have hb : ∀ i, i < W0.heap.size → W'.heap[i]? = W.heap[i]? := fun i hi => hg.block i (Nat.lt_of_lt_of_le hi h.size) (fun e => by have := (hr i e.symm).1; omega)
  obtain ⟨v, h1, h2⟩ := h.box
  refine ⟨hg.os.trans h.os, hg.tape.trans h.tape, hg.output.trans h.output, Nat.le_trans h.size hg.size, fun i hi a => (hb i hi).trans (h.oth i hi a), v, (hb G hG).trans h1, ?_⟩
  rcases h2.2 with h3 | ⟨g, cap, cur, hv, hb2, hg2, h4⟩
  · exact ⟨h2.1, .inl h3⟩
  · refine ⟨h2.1, .inr ⟨g, cap, cur, hv, hb2, (hg.block g (Array.getElem?_eq_some_iff.1 hg2).1 (fun e => ?_)).trans hg2, h4⟩⟩
    obtain ⟨_, o, ho, hc⟩ := hr g e.symm
    rw [hg2] at ho
    injection ho with ho
    subst ho
    cases hc

theorem results_cell_row1 {fn : Func} {P : Program} {p : Tmp} {ty : TypeId} (h : fn.results = #[.cell p ty]) (tmps : Array Value) (w : World) (g : Nat) (t : TypeId) (cs : Array Value) (fr : Nat × Nat) (d : TypeDesc)
    (hp : tmps.getD p undef = .pointer (some ⟨g, 0, none⟩)) (hg : w.heap[g]? = some (.cells cs t fr))
    (hu : P.underlying ty = some d) (hd : (match d with | .struct _ | .array _ _ => true | _ => false) = true) (hi : (P.info? ty).map (·.size) = some cs.size) :
    (results fn tmps).run P w = .ok (.agg cs) w := by
  have hp' : tmps[p]?.getD undef = .pointer (some ⟨g, 0, none⟩) := by simpa using hp
  simp [results, h, hp', asAddr, run_loadVar_row w g t ty cs fr d hg hu hd hi]
theorem own_put {W : World} {base : Nat} {e : TypeId} {v : Value} {n : Nat} {xs : List Value} {D : Nat} {o o' : Obj} (h : W.ownsRow base e 4 v n xs) (hD : W.heap[D]? = some o) (ho : o.isCells = false) : (W.putObj D o').ownsRow base e 4 v n xs :=
  ⟨h.1, h.2.imp id fun ⟨g, cap, cur, hv, hb, hg, h4⟩ => ⟨g, cap, cur, hv, hb, (World.putObj_heap_other (by
    intro e
    subst e
    rw [hD] at hg
    injection hg with hg
    subst hg
    cases ho)).trans hg, h4⟩⟩

/-- What manifestOf answers. -/
def MPost (L : List UInt64) (w : World) (e : Ending) (w' : World) : Prop :=
  ∃ mm : MM, e = .returned (aggM mm) ∧ mm.1 = made L ∧ w'.ownsRow w.heap.size 65 4 (slV mm.2) mm.1.segs.length (flatS mm.1.segs) ∧ Below w.heap.size w w'

/-- One way out. -/
def onlyE (a0 : Act) (W3 : World) : Exit → Act → World → Prop
  | .normal, a, w => a = a0 ∧ w = W3
  | _, _, _ => False

set_option maxHeartbeats 3200000 in
set_option maxRecDepth 100000 in
theorem manifestOf_any (L : List UInt64) (A : Option Addr) (n c : Nat) (w : World) (h0 : n = L.length) (hr : Rd w w.heap.size A (L.map B64)) (hc : n ≤ c) (hcm : c ≤ maxLen) (hL : n ≤ 65536) (ha : areOf L = true) :
    Calls Tryz.prog 51 #[.slice A n c] w (MPost L w) := by
  obtain ⟨h5, h4, hn4⟩ := (areOf_iff L).1 ha
  obtain ⟨b, off, rfl, hb, hcell⟩ := hr (by simp; omega)
  obtain ⟨W, hW⟩ : ∃ W, w.alloc (.cells #[.int .i64 0, .int .i64 0, .int .u64 0, .int .i64 0, .slice none 0 0] 37) = W := ⟨_, rfl⟩
  have HBW : Hid (Below w.heap.size w W) := Lib.hid (by rw [← hW]; exact (Below.refl _ w).alloc (Nat.le_refl _) _)
  have HW := Lib.hid hW
  have hws : w.heap.size < W.heap.size := by rw [← hW]; simp
  have y0 := cell_up HBW.out (p := ⟨b, off + 0, none⟩) hb (cell64 hcell (k := 0) (by omega))
  have y1 := cell_up HBW.out (p := ⟨b, off + 1, none⟩) hb (cell64 hcell (k := 1) (by omega))
  have y2 := cell_up HBW.out (p := ⟨b, off + 2, none⟩) hb (cell64 hcell (k := 2) (by omega))
  have y3 := cell_up HBW.out (p := ⟨b, off + 3, none⟩) hb (cell64 hcell (k := 3) (by omega))
  obtain ⟨m, hm⟩ : ∃ m, (L.length - 5) / 4 = m := ⟨_, rfl⟩
  have HN : Hid (n = 5 + 4 * m) := Lib.hid (by omega)
  have HM : Hid (made L = ⟨wnum L[0], wnum L[1], L[2], zag ((L[3]).toNat : Int), segsP L m⟩) := Lib.hid (by
    unfold made madeTo at64
    rw [hm]
    simp only [List.getD_eq_getElem?_getD, List.getElem?_eq_getElem (show 0 < L.length by omega), List.getElem?_eq_getElem (show 1 < L.length by omega), List.getElem?_eq_getElem (show 2 < L.length by omega), List.getElem?_eq_getElem (show 3 < L.length by omega)]
    rfl)
  generalize L[0] = X0 at *
  generalize L[1] = X1 at *
  generalize L[2] = X2 at *
  generalize L[3] = X3 at *
  have hx3 := X3.toNat_lt
  have HZG : ∀ wz, Hid (Calls Tryz.prog 73 #[.int .u64 (X3.toNat : Int)] wz fun e w' => e = .returned (.int .i64 (zag (X3.toNat : Int))) ∧ wz = w') := fun wz => Lib.hid (zag_any _ wz (by omega) (by omega))
  have hw0 : IntKind.i64.wrap (X0.toNat : Int) = wnum X0 := rfl
  have hw1 : IntKind.i64.wrap (X1.toNat : Int) = wnum X1 := rfl
  rw [Nat.add_zero] at y0
  obtain ⟨K0, hK0⟩ : ∃ K, wnum X0 = K := ⟨_, rfl⟩
  obtain ⟨K1, hK1⟩ : ∃ K, wnum X1 = K := ⟨_, rfl⟩
  obtain ⟨K3, hK3⟩ : ∃ K, zag (X3.toNat : Int) = K := ⟨_, rfl⟩
  rw [hK0] at hw0 HM
  rw [hK1] at hw1 HM
  rw [hK3] at HM
  simp only [hK3] at HZG
  have HLN := Lib.hid h0
  have HCELL := Lib.hid hcell
  have HARE := Lib.hid (And.intro h5 (And.intro h4 hn4))
  have hn5 : 5 ≤ n := by omega
  clear h0 hcell hr h5 h4 hn4 hm ha hK0 hK1 hK3 hW
  unfold MPost
  rw [HM.out]
  refine (callsIn_wide (n := 9)).1 ?_
  refine callsIn_of_wp_marks Tryz.func51 rfl trivial ?_ rfl
  simp only [Tryz.ntmps51, List.size_toArray, List.length_cons, List.length_nil, Nat.reduceAdd, Nat.reduceSub, Array.replicate_succ, Array.replicate_zero, List.push_toArray, List.append_toArray, List.nil_append, List.cons_append]
  gi_wp2
  rw [HW.out]
  have hbW : b < W.heap.size := by omega
  have up : ∀ w', Below W.heap.size W w' → w'.cell? ⟨b, off, none⟩ = some (.int .u64 (X0.toNat : Int)) ∧ w'.cell? ⟨b, off + 1, none⟩ = some (.int .u64 (X1.toNat : Int)) ∧ w'.cell? ⟨b, off + 2, none⟩ = some (.int .u64 (X2.toNat : Int)) ∧ w'.cell? ⟨b, off + 3, none⟩ = some (.int .u64 (X3.toNat : Int)) := fun w' hb' => ⟨cell_up hb' (p := ⟨b, off, none⟩) hbW y0, cell_up hb' (p := ⟨b, off + 1, none⟩) hbW y1, cell_up hb' (p := ⟨b, off + 2, none⟩) hbW y2, cell_up hb' (p := ⟨b, off + 3, none⟩) hbW y3⟩
  have BA : ∀ o, Below W.heap.size W (W.alloc o) := fun o => (Below.refl _ W).alloc (Nat.le_refl _) o
  have S0 := Lib.hid (up W (Below.refl _ _))
  have S1 := Lib.hid (up W.drew (below_drew1 (Below.refl _ _)))
  have S2 := Lib.hid (up (W.alloc (.cells #[.int .i64 0, .int .i64 0, .int .u64 0, .int .i64 0, .slice none 0 0] 37)).drew (below_drew1 (BA _)))
  have S3 := Lib.hid (up (W.drew.alloc (.cells #[.int .i64 0, .int .i64 0, .int .u64 0, .int .i64 0, .slice none 0 0] 37)) (below_drew1 (BA _)))
  have S4 := Lib.hid (up (W.alloc (.cells #[.int .i64 K0, .int .i64 K1, .int .u64 (X2.toNat : Int), .int .i64 K3, .slice none 0 0] 37)).drew (below_drew1 (BA _)))
  have S5 := Lib.hid (up (W.drew.alloc (.cells #[.int .i64 K0, .int .i64 K1, .int .u64 (X2.toNat : Int), .int .i64 K3, .slice none 0 0] 37)) (below_drew1 (BA _)))
  have i1 : (1 : Int) < (n : Int) := by omega
  have i2 : (2 : Int) < (n : Int) := by omega
  have i3 : (3 : Int) < (n : Int) := by omega
  have i0 : (0 : Int) < (n : Int) := by omega
  have n0 : 0 < n := by omega
  clear up BA
  obtain ⟨W1, hW1⟩ : ∃ W1, W.drew.alloc (.cells #[.int .i64 K0, .int .i64 K1, .int .u64 (X2.toNat : Int), .int .i64 K3, .slice none 0 0] 37) = W1 := ⟨_, rfl⟩
  have HW1 := Lib.hid hW1
  have hs1 : W1.heap.size = W.heap.size + 1 := by rw [← hW1]; exact World.size_alloc _ _
  have HBX1 : Hid (Box5 W1 W.heap.size (.int .i64 K0) (.int .i64 K1) (.int .u64 (X2.toNat : Int)) (.int .i64 K3) (.slice none 0 0)) := Lib.hid (by rw [← hW1]; exact heap_alloc_new W.drew _)
  have HB1 : Hid (Below W.heap.size W W1) := Lib.hid (by rw [← hW1]; exact (below_drew1 (Below.refl _ W)).trans ((Below.refl _ W.drew).alloc (Nat.le_refl _) _))
  clear hW1
  obtain ⟨A5, c5, hsl, hc5, hcm5, hA5⟩ := from5 b off n c m HN.out hc hcm
  refine wpIn_mono (Q := onlyE { tmps := #[.slice (some ⟨b, off, none⟩) n c, undef, .pointer (some ⟨w.heap.size, 0, none⟩), .pointer (some ⟨W.heap.size, 0, none⟩), undef, .slice (some ⟨b, off, none⟩) n c, .pointer (some ⟨b, off, none⟩), .int .u64 (X0.toNat : Int), .int .i64 K0, .slice (some ⟨b, off, none⟩) n c, .pointer (some ⟨b, off + 1, none⟩), .int .u64 (X1.toNat : Int), .int .i64 K1, .slice (some ⟨b, off, none⟩) n c, .pointer (some ⟨b, off + 2, none⟩), .int .u64 (X2.toNat : Int), .slice (some ⟨b, off, none⟩) n c, .pointer (some ⟨b, off + 3, none⟩), .int .u64 (X3.toNat : Int), .int .i64 K3, .agg #[.int .i64 K0, .int .i64 K1, .int .u64 (X2.toNat : Int), .int .i64 K3, .slice none 0 0], undef, undef, undef, undef, undef, undef, undef, undef, undef, undef, undef, undef, undef, undef, undef, undef, undef, undef, undef, undef, undef, undef, undef, undef, undef, undef, undef], defers := [] } W1) (wpIn_wide.2 ?_) ?_
  case refine_1 =>
    refine wp_region_D (fun j => j == 17) (fun w' => w'.cell? ⟨b, off, none⟩ = some (.int .u64 (X0.toNat : Int)) ∧ w'.cell? ⟨b, off + 1, none⟩ = some (.int .u64 (X1.toNat : Int)) ∧ w'.cell? ⟨b, off + 2, none⟩ = some (.int .u64 (X2.toNat : Int)) ∧ w'.cell? ⟨b, off + 3, none⟩ = some (.int .u64 (X3.toNat : Int))) (by kernel_rfl) ?_
    refine wpAnyD_take (i := 0) (v := ?_) rfl (by kernel_rfl) (fun _ _ _ h => h) (Or.inl ⟨by kernel_rfl, ?_⟩) S1.out ?_
    rotate_left
    · intro w9 h9
      obtain ⟨t1, t2, t3, t4⟩ := h9
      first | (go_simp; with_reducible rfl) | go_simp
    try simp only [Act.put, List.setIfInBounds_toArray]
    refine wpAnyD_take (i := 1) (v := ?_) rfl (by kernel_rfl) (fun _ _ _ h => h) (Or.inl ⟨by kernel_rfl, ?_⟩) S1.out ?_
    rotate_left
    · intro w9 h9
      obtain ⟨t1, t2, t3, t4⟩ := h9
      first | (go_simp; with_reducible rfl) | go_simp
    try simp only [Act.put]
    refine wpAnyD_take (i := 2) (v := ?_) rfl (by kernel_rfl) (fun _ _ _ h => h) (Or.inl ⟨by kernel_rfl, ?_⟩) S1.out ?_
    rotate_left
    · intro w9 h9
      obtain ⟨t1, t2, t3, t4⟩ := h9
      first | (go_simp; with_reducible rfl) | go_simp
    try simp only [Act.put]
    refine wpAnyD_take (i := 3) (v := ?_) rfl (by kernel_rfl) (fun _ _ _ h => h) (Or.inl ⟨by kernel_rfl, ?_⟩) S1.out ?_
    rotate_left
    · intro w9 h9
      obtain ⟨t1, t2, t3, t4⟩ := h9
      first | (go_simp; with_reducible rfl) | go_simp
    try simp only [Act.put]
    refine wpAnyD_take (i := 4) (v := ?_) rfl (by kernel_rfl) (fun _ _ _ h => h) (Or.inl ⟨by kernel_rfl, ?_⟩) S1.out ?_
    rotate_left
    · intro w9 h9
      obtain ⟨t1, t2, t3, t4⟩ := h9
      first | (go_simp; with_reducible rfl) | go_simp
    try simp only [Act.put]
    refine wpAnyD_take (i := 5) (v := ?_) rfl (by kernel_rfl) (fun _ _ _ h => h) (Or.inl ⟨by kernel_rfl, ?_⟩) S1.out ?_
    rotate_left
    · intro w9 h9
      obtain ⟨t1, t2, t3, t4⟩ := h9
      first | (go_simp; with_reducible rfl) | go_simp
    try simp only [Act.put]
    refine wpAnyD_take (i := 6) (v := ?_) rfl (by kernel_rfl) (fun _ _ _ h => h) (Or.inl ⟨by kernel_rfl, ?_⟩) S1.out ?_
    rotate_left
    · intro w9 h9
      obtain ⟨t1, t2, t3, t4⟩ := h9
      first | (go_simp; with_reducible rfl) | go_simp
    try simp only [Act.put]
    refine wpAnyD_take (i := 7) (v := ?_) rfl (by kernel_rfl) (fun _ _ _ h => h) (Or.inl ⟨by kernel_rfl, ?_⟩) S1.out ?_
    rotate_left
    · intro w9 h9
      obtain ⟨t1, t2, t3, t4⟩ := h9
      first | (go_simp; with_reducible rfl) | go_simp
    try simp only [Act.put]
    refine wpAnyD_take (i := 8) (v := ?_) rfl (by kernel_rfl) (fun _ _ _ h => h) (Or.inl ⟨by kernel_rfl, ?_⟩) S1.out ?_
    rotate_left
    · intro w9 h9
      obtain ⟨t1, t2, t3, t4⟩ := h9
      first | (go_simp; with_reducible rfl) | go_simp
    try simp only [Act.put]
    refine wpAnyD_take (i := 9) (v := ?_) rfl (by kernel_rfl) (fun _ _ _ h => h) (Or.inl ⟨by kernel_rfl, ?_⟩) S1.out ?_
    rotate_left
    · intro w9 h9
      obtain ⟨t1, t2, t3, t4⟩ := h9
      first | (go_simp; with_reducible rfl) | go_simp
    try simp only [Act.put]
    refine wpAnyD_take (i := 10) (v := ?_) rfl (by kernel_rfl) (fun _ _ _ h => h) (Or.inl ⟨by kernel_rfl, ?_⟩) S1.out ?_
    rotate_left
    · intro w9 h9
      obtain ⟨t1, t2, t3, t4⟩ := h9
      first | (go_simp; with_reducible rfl) | go_simp
    try simp only [Act.put]
    refine wpAnyD_take (i := 11) (v := ?_) rfl (by kernel_rfl) (fun _ _ _ h => h) (Or.inl ⟨by kernel_rfl, ?_⟩) S1.out ?_
    rotate_left
    · intro w9 h9
      obtain ⟨t1, t2, t3, t4⟩ := h9
      first | (go_simp; with_reducible rfl) | go_simp
    try simp only [Act.put]
    refine wpAnyD_take (i := 12) (v := ?_) rfl (by kernel_rfl) (fun _ _ _ h => h) (Or.inl ⟨by kernel_rfl, ?_⟩) S1.out ?_
    rotate_left
    · intro w9 h9
      obtain ⟨t1, t2, t3, t4⟩ := h9
      first | (go_simp; with_reducible rfl) | go_simp
    try simp only [Act.put]
    refine wpAnyD_take (i := 13) (v := ?_) rfl (by kernel_rfl) (fun _ _ _ h => h) (Or.inl ⟨by kernel_rfl, ?_⟩) S1.out ?_
    rotate_left
    · intro w9 h9
      obtain ⟨t1, t2, t3, t4⟩ := h9
      first | (go_simp; with_reducible rfl) | go_simp
    try simp only [Act.put]
    refine wpAnyD_two (i := 14) (j := 16) (by kernel_rfl) rfl rfl rfl rfl rfl rfl (fun K hK => ?_) (fun K hK => ?_)
    case refine_1 =>
      go_simp
      with_reducible refine (HZG _).out.mono ?_
      rintro e wy ⟨rfl, rfl⟩
      refine hK.out _ _ S1.out ?_
      clear hK K
      try simp only [Act.put, List.setIfInBounds_toArray, List.set_cons_zero, List.set_cons_succ]
      refine wpAnyD_take (i := 15) (v := ?_) rfl (by kernel_rfl) (fun _ _ _ h => h) (Or.inl ⟨by kernel_rfl, ?_⟩) S1.out ?_
      rotate_left
      · intro w9 h9
        obtain ⟨t1, t2, t3, t4⟩ := h9
        first | (go_simp; with_reducible rfl) | go_simp
      try simp only [Act.put, List.setIfInBounds_toArray]
      refine wpAnyD_one (j := 16) (by kernel_rfl) rfl rfl rfl (fun K hK => ?_)
      go_simp
      refine hK.out _ _ S3.out ?_
      clear hK K
      try simp only [Act.put, List.setIfInBounds_toArray, List.set_cons_zero, List.set_cons_succ]
      refine wpAnyD_dep (j := 17) (by kernel_rfl) rfl rfl rfl (fun K hK => ?_)
      go_simp
      refine hK.out _ _ ⟨by kernel_rfl, ?_⟩
      exact ⟨rfl, HW1.out⟩
    case refine_2 =>
      go_simp
      refine hK.out _ _ S3.out ?_
      clear hK K
      try simp only [Act.put, List.setIfInBounds_toArray, List.set_cons_zero, List.set_cons_succ]
      refine wpAnyD_one (j := 14) (by kernel_rfl) rfl rfl rfl (fun K hK => ?_)
      go_simp
      with_reducible refine (HZG _).out.mono ?_
      rintro e wy ⟨rfl, rfl⟩
      refine hK.out _ _ S3.out ?_
      clear hK K
      try simp only [Act.put, List.setIfInBounds_toArray, List.set_cons_zero, List.set_cons_succ]
      refine wpAnyD_take (i := 15) (v := ?_) rfl (by kernel_rfl) (fun _ _ _ h => h) (Or.inl ⟨by kernel_rfl, ?_⟩) S3.out ?_
      rotate_left
      · intro w9 h9
        obtain ⟨t1, t2, t3, t4⟩ := h9
        first | (go_simp; with_reducible rfl) | go_simp
      try simp only [Act.put, List.setIfInBounds_toArray]
      refine wpAnyD_dep (j := 17) (by kernel_rfl) rfl rfl rfl (fun K hK => ?_)
      go_simp
      refine hK.out _ _ ⟨by kernel_rfl, ?_⟩
      exact ⟨rfl, HW1.out⟩
  intro e a9 w9 h9
  cases e <;> first | exact h9.elim | skip
  obtain ⟨rfl, e9⟩ := h9
  rw [e9]
  clear e9
  clear S0 S1 S2 S3 S4 S5 i0 i1 i2 i3 n0 hn5 HZG hw0 hw1 hx3 y0 y1 y2 y3
  obtain ⟨W0, hW0⟩ : ∃ W0, (W1.alloc (.cells #[.slice A5 (4 * m) c5] 80)).alloc (.cells #[.int .i64 4] 3) = W0 := ⟨_, rfl⟩
  have HW0 := Lib.hid hW0
  have hs0 : W0.heap.size = W1.heap.size + 1 + 1 := by rw [← hW0]; simp
  have hB01 : Below W1.heap.size W1 W0 := by rw [← hW0]; exact ((Below.refl _ W1).alloc (Nat.le_refl _) _).alloc (by simp) _
  have hBs : W0.heap[W1.heap.size]? = some (.cells #[.slice A5 (4 * m) c5] 80 (0, 0)) := by rw [← hW0]; exact (Below.heap_alloc _ _ _ (by simp)).trans (heap_alloc_new W1 _)
  have hBn : W0.heap[W1.heap.size + 1]? = some (.cells #[.int .i64 4] 3 (0, 0)) := by
    rw [← hW0]
    have := heap_alloc_new (W1.alloc (.cells #[.slice A5 (4 * m) c5] 80)) (.cells #[.int .i64 4] 3)
    rwa [World.size_alloc] at this
  have hBG : Box5 W0 W.heap.size (.int .i64 K0) (.int .i64 K1) (.int .u64 (X2.toNat : Int)) (.int .i64 K3) (.slice none 0 0) := (hB01.block _ (by omega)).trans HBX1.out
  have HB0 : Hid (Below w.heap.size w W0) := Lib.hid (HBW.out.trans ((HB1.out.mono HBW.out.size).trans (hB01.mono (by have := HBW.out.size; have := HB1.out.size; omega))))
  have HM0 : Hid (MSt W0 W.heap.size K0 K1 X2 K3 [] W0) := Lib.hid ⟨rfl, rfl, rfl, Nat.le_refl _, fun _ _ _ => rfl, _, hBG, World.ownsRow_nil _ _ _ _⟩
  have HBS := Lib.hid (And.intro hBs hBn)
  have hm4 : 4 * m ≤ 65536 := by have := HN.out; omega
  have HS := Lib.hid (And.intro hs0 hs1)
  have hlt0 : w.heap.size < W.heap.size ∧ W.heap.size < W0.heap.size ∧ W1.heap.size + 1 < W0.heap.size := by omega
  clear hW0 hB01 hBs hBn hBG hs0 hs1
  gi_wp2_with (refine ⟨trivial, ?_⟩; gi_at_call 74; refine (callsIn_wide.2 (chunk_any _ _ _ _)).mono ?_; rintro e w8 ⟨rfl, rfl⟩)
  rw [HW0.out]
  have hseq := chunk_stops Fence.wide 8 trivial rfl (by omega) W1.heap.size (W1.heap.size + 1) c5 A5 m (by omega) hc5 hcm5 (fun h => ⟨_, _, hA5 h⟩) W0 HBS.out.1 HBS.out.2
  have hkb : ∀ (W : World) (l : Nat) (o o' : Obj), W0.heap.size ≤ l → W.heap[l]? = some o → o.isCells = false → o.isWalk = false → KpC W1.heap.size (W1.heap.size + 1) W (W.putObj l o') := fun W l o o' hl _ _ _ => ⟨World.putObj_heap_other (by omega), World.putObj_heap_other (by omega)⟩
  have hI : OwnFrom W0.heap.size (fun (pre : List (Ix m)) W9 => MSt W0 W.heap.size K0 K1 X2 K3 (pre.map fun y => segP L y.1) W9) := fun s X Y row hs hg hr => MSt.own hs hg hlt0.2.1 hr
  have hIx : ∀ c : Code, OwnFrom W0.heap.size ((fun _ _ _ => False : Code → List (Ix m) → World → Prop) c) := fun _ _ _ _ _ hs _ _ => hs
  refine wpIn_rangeFunc_ownF rfl (by omega) (gf := 84) (lb := #[.pointer (some ⟨W1.heap.size, 0, none⟩), .pointer (some ⟨W1.heap.size + 1, 0, none⟩)]) rfl trivial (enters_of Tryz.func84 (by kernel_rfl) rfl)
    hseq (fun h k => kpC_t h k) hkb (Below.refl _ _) (fun _ => rfl) _ _ hI hIx HM0.out
    (fun x => { tmps := #[.slice (some ⟨b, off, none⟩) n c, undef, .pointer (some ⟨w.heap.size, 0, none⟩), .pointer (some ⟨W.heap.size, 0, none⟩), chV A5 x.1, .slice (some ⟨b, off, none⟩) n c, .pointer (some ⟨b, off, none⟩), .int .u64 (X0.toNat : Int), .int .i64 K0, .slice (some ⟨b, off, none⟩) n c, .pointer (some ⟨b, off + 1, none⟩), .int .u64 (X1.toNat : Int), .int .i64 K1, .slice (some ⟨b, off, none⟩) n c, .pointer (some ⟨b, off + 2, none⟩), .int .u64 (X2.toNat : Int), .slice (some ⟨b, off, none⟩) n c, .pointer (some ⟨b, off + 3, none⟩), .int .u64 (X3.toNat : Int), .int .i64 K3, .agg #[.int .i64 K0, .int .i64 K1, .int .u64 (X2.toNat : Int), .int .i64 K3, .slice none 0 0], .slice (some ⟨b, off, none⟩) n c, .slice A5 (4 * m) c5, .func (.func 84) #[] #[.pointer (some ⟨W1.heap.size, 0, none⟩), .pointer (some ⟨W1.heap.size + 1, 0, none⟩)], chV A5 x.1, undef, undef, undef, undef, undef, undef, undef, undef, undef, undef, undef, undef, undef, undef, undef, undef, undef, undef, undef, undef, undef, undef, undef], defers := [] }) ?assign ?body ?done ?stop
  case assign =>
    intro l x W9 K hK
    unfold encC at *
    gi_wp2
    exact hK
  case stop =>
    rintro D c pre W _ _ h _
    exact h.elim
  case done =>
    rintro D ys W9 hD hys hI hK
    have hI : MSt W0 W.heap.size K0 K1 X2 K3 (ys.map fun y => segP L y.1) W9 := hI
    have hys : ys.map Subtype.val = List.range m := hys
    have hseg : (ys.map fun y => segP L y.1) = segsP L m := by
      unfold segsP
      rw [← hys, List.map_map]
      rfl
    rw [hseg] at hI
    obtain ⟨v, hbx, hown⟩ := hI.box
    obtain ⟨A9, c9, rfl, _, _⟩ := own_sgs hown
    have hz9 : Box5 W9 w.heap.size (.int .i64 0) (.int .i64 0) (.int .u64 0) (.int .i64 0) (.slice none 0 0) := (hI.oth _ (by omega) (by omega)).trans (by
      have h1 : W.heap[w.heap.size]? = some (.cells #[.int .i64 0, .int .i64 0, .int .u64 0, .int .i64 0, .slice none 0 0] 37 (0, 0)) := by rw [← HW.out]; exact heap_alloc_new w _
      have h2 : W1.heap[w.heap.size]? = W.heap[w.heap.size]? := HB1.out.block _ hlt0.1
      have h3 : W0.heap[w.heap.size]? = W1.heap[w.heap.size]? := by
        have h9 := HS.out.2
        rw [← HW0.out]
        exact (Below.heap_alloc _ _ _ (by simp; omega)).trans (Below.heap_alloc _ _ _ (by omega))
      exact (h3.trans h2).trans h1)
    obtain ⟨⟨x0, x1, x2, x3, x4⟩, _⟩ := hbx.facts
    obtain ⟨⟨r0, r1, r2, r3, r4⟩, z0, z1, z2, z3, z4⟩ := hz9.facts
    have hsl9 : (segsP L m).length = m := segsP_len _ _
    rw [hsl9] at x4 hown
    have hput := hz9.put (a' := .int .i64 K0) (b' := .int .i64 K1) (c' := .int .u64 (X2.toNat : Int)) (d' := .int .i64 K3) (e' := .slice A9 m c9)
    have hg1 : w.heap.size < W0.heap.size := by omega
    have hown5 := ownsRow_setCell_below (ownsRow_setCell_below (ownsRow_setCell_below (ownsRow_setCell_below (ownsRow_setCell_below hown (a := ⟨w.heap.size, 0, none⟩) hg1 (.int .i64 K0)) (a := ⟨w.heap.size, 1, none⟩) hg1 (.int .i64 K1)) (a := ⟨w.heap.size, 2, none⟩) hg1 (.int .u64 (X2.toNat : Int))) (a := ⟨w.heap.size, 3, none⟩) hg1 (.int .i64 K3)) (a := ⟨w.heap.size, 4, none⟩) hg1 (.slice A9 m c9)
    have hK10 : (((((W9.setCell ⟨w.heap.size, 0, none⟩ (.int .i64 K0)).setCell ⟨w.heap.size, 1, none⟩ (.int .i64 K1)).setCell ⟨w.heap.size, 2, none⟩ (.int .u64 (X2.toNat : Int))).setCell ⟨w.heap.size, 3, none⟩ (.int .i64 K3)).setCell ⟨w.heap.size, 4, none⟩ (.slice A9 m c9)).heap[D]? = some (.deferred (some [])) := by
      have hD' : D ≠ w.heap.size := by omega
      rw [heap_setCell_other _ _ _ _ hD', heap_setCell_other _ _ _ _ hD', heap_setCell_other _ _ _ _ hD', heap_setCell_other _ _ _ _ hD', heap_setCell_other _ _ _ _ hD']
      exact hK
    have hB9 : Below w.heap.size w W9 := ⟨hI.os.trans HB0.out.os, hI.tape.trans HB0.out.tape, hI.output.trans HB0.out.output, Nat.le_trans HB0.out.size hI.size, fun i hi => (hI.oth i (by omega) (by omega)).trans (HB0.out.block i hi)⟩
    have hB10 := put_below (a' := .int .i64 K0) (b' := .int .i64 K1) (c' := .int .u64 (X2.toNat : Int)) (d' := .int .i64 K3) (e' := .slice A9 m c9) hB9 (Nat.le_refl _)
    have HFIN : Hid (Below w.heap.size w ((((((W9.setCell ⟨w.heap.size, 0, none⟩ (.int .i64 K0)).setCell ⟨w.heap.size, 1, none⟩ (.int .i64 K1)).setCell ⟨w.heap.size, 2, none⟩ (.int .u64 (X2.toNat : Int))).setCell ⟨w.heap.size, 3, none⟩ (.int .i64 K3)).setCell ⟨w.heap.size, 4, none⟩ (.slice A9 m c9)).putObj D (.deferred none)) ∧
        ((((((W9.setCell ⟨w.heap.size, 0, none⟩ (.int .i64 K0)).setCell ⟨w.heap.size, 1, none⟩ (.int .i64 K1)).setCell ⟨w.heap.size, 2, none⟩ (.int .u64 (X2.toNat : Int))).setCell ⟨w.heap.size, 3, none⟩ (.int .i64 K3)).setCell ⟨w.heap.size, 4, none⟩ (.slice A9 m c9)).putObj D (.deferred none)).ownsRow w.heap.size 65 4 (.slice A9 m c9) m (flatS (segsP L m)) ∧
        ((((((W9.setCell ⟨w.heap.size, 0, none⟩ (.int .i64 K0)).setCell ⟨w.heap.size, 1, none⟩ (.int .i64 K1)).setCell ⟨w.heap.size, 2, none⟩ (.int .u64 (X2.toNat : Int))).setCell ⟨w.heap.size, 3, none⟩ (.int .i64 K3)).setCell ⟨w.heap.size, 4, none⟩ (.slice A9 m c9)).putObj D (.deferred none)).heap[w.heap.size]? = some (.cells #[.int .i64 K0, .int .i64 K1, .int .u64 (X2.toNat : Int), .int .i64 K3, .slice A9 m c9] 37 (0, 0))) := Lib.hid (by
      have hgD : w.heap.size < D := by omega
      exact ⟨hB10.grown (grownBy_putObj' _ D _) hB10.size (fun k hk => by cases hk; omega), own_monoN (own_put hown5 hK10 rfl) (Nat.le_of_lt hg1), (World.putObj_heap_other (by omega)).trans hput⟩)
    have HK10 := Lib.hid hK10
    clear hown5 hB9 hB10 hput hown hbx hz9 hI hseg hys
    gi_wp2
    refine ⟨by simp, .inl ⟨_, _, rfl, run_takeDeferred HK10.out, ?_⟩⟩
    refine ⟨_, results_cell_row1 rfl _ _ w.heap.size 37 #[.int .i64 K0, .int .i64 K1, .int .u64 (X2.toNat : Int), .int .i64 K3, .slice A9 m c9] _ _ rfl HFIN.out.2.2 Tryz.underlying37 rfl (by kernel_rfl), ?_⟩
    refine ⟨⟨K0, K1, X2, K3, segsP L m⟩, A9, m, c9, rfl, rfl, ?_, HFIN.out.1⟩
    show World.ownsRow _ _ _ _ (.slice A9 m c9) (segsP L m).length (flatS (segsP L m))
    rw [hsl9]
    exact HFIN.out.2.1
  case body =>
    rintro l pre x W9 hI hlen
    obtain ⟨j, hj⟩ := x
    have hI : MSt W0 W.heap.size K0 K1 X2 K3 (pre.map fun y => segP L y.1) W9 := hI
    have hpl : (pre.map fun y => segP L y.1).length = pre.length := by simp
    have hlen : pre.length < m := hlen
    have hpr : ((pre ++ [(⟨j, hj⟩ : Ix m)]).map fun y => segP L y.1) = (pre.map fun y => segP L y.1) ++ [segP L j] := by rw [List.map_append]; rfl
    refine wpIn_mono (Q := onlyS fun _ w' => KeepsOthers W9 w' ∧ KpC W1.heap.size (W1.heap.size + 1) W9 w' ∧ MSt W0 W.heap.size K0 K1 X2 K3 ((pre.map fun y => segP L y.1) ++ [segP L j]) w') ?_ ?_
    case refine_2 =>
      intro e a9 w9 h9
      cases e <;> first | exact h9.elim | skip
      refine ⟨h9.1, h9.2.1, ?_⟩
      show MSt W0 W.heap.size K0 K1 X2 K3 ((pre ++ [(⟨j, hj⟩ : Ix m)]).map fun y => segP L y.1) w9
      rw [hpr]
      exact h9.2.2
    case refine_1 =>
      clear hpr
      obtain ⟨l9, hl9⟩ : ∃ l9, (pre.map fun y => segP L y.1) = l9 := ⟨_, rfl⟩
      rw [hl9] at hI hpl
      rw [hl9]
      clear hl9
      obtain ⟨v, hbx, hown⟩ := hI.box
      obtain rfl := hA5 (by omega)
      have hLL := HLN.out
      have hLN := HN.out
      obtain ⟨o, ho⟩ : ∃ o, off + 5 + 4 * j = o := ⟨_, rfl⟩
      unfold chV
      simp only [Option.map_some, add_off]
      rw [ho]
      have hblk : W9.heap[b]? = w.heap[b]? := (hI.oth b (by omega) (by omega)).trans (HB0.out.block b hb)
      have gc : ∀ r (hr : 5 + 4 * j + r < L.length), W9.cell? ⟨b, o + r, none⟩ = some (.int .u64 ((L[5 + 4 * j + r]).toNat : Int)) := fun r hr => by
        rw [World.cell?_of_block (a := ⟨b, o + r, none⟩) hblk, ← ho, show off + 5 + 4 * j + r = off + (5 + 4 * j + r) by omega]
        exact cell64 HCELL.out hr
      have e0 := gc 0 (by omega)
      have e1 := gc 1 (by omega)
      have e2 := gc 2 (by omega)
      have e3 := gc 3 (by omega)
      have HSG : Hid (segP L j = ⟨wnum L[5 + 4 * j + 0], wnum L[5 + 4 * j + 1], zag ((L[5 + 4 * j + 2]).toNat : Int), zag ((L[5 + 4 * j + 3]).toNat : Int)⟩) := Lib.hid (by
        unfold segP at64
        simp only [List.getD_eq_getElem?_getD, List.getElem?_eq_getElem (show 5 + 4 * j < L.length by omega), List.getElem?_eq_getElem (show 5 + 4 * j + 1 < L.length by omega), List.getElem?_eq_getElem (show 5 + 4 * j + 2 < L.length by omega), List.getElem?_eq_getElem (show 5 + 4 * j + 3 < L.length by omega)]
        rfl)
      generalize L[5 + 4 * j + 0] = Y0 at *
      generalize L[5 + 4 * j + 1] = Y1 at *
      generalize L[5 + 4 * j + 2] = Y2 at *
      generalize L[5 + 4 * j + 3] = Y3 at *
      rw [Nat.add_zero] at e0
      have hx2 := Y2.toNat_lt
      have hx3 := Y3.toNat_lt
      have HZ2 : ∀ wz, Hid (Calls Tryz.prog 73 #[.int .u64 (Y2.toNat : Int)] wz fun e w' => e = .returned (.int .i64 (zag (Y2.toNat : Int))) ∧ wz = w') := fun wz => Lib.hid (zag_any _ wz (by omega) (by omega))
      have HZ3 : ∀ wz, Hid (Calls Tryz.prog 73 #[.int .u64 (Y3.toNat : Int)] wz fun e w' => e = .returned (.int .i64 (zag (Y3.toNat : Int))) ∧ wz = w') := fun wz => Lib.hid (zag_any _ wz (by omega) (by omega))
      have hc0 : IntKind.i64.wrap (Y0.toNat : Int) = wnum Y0 := rfl
      have hc1 : IntKind.i64.wrap (Y1.toNat : Int) = wnum Y1 := rfl
      generalize wnum Y0 = C0 at *
      generalize wnum Y1 = C1 at *
      generalize zag (Y2.toNat : Int) = C2 at *
      generalize zag (Y3.toNat : Int) = C3 at *
      obtain ⟨G, hG⟩ : ∃ G, W.heap.size = G := ⟨_, rfl⟩
      rw [hG] at hI hbx hlt0
      rw [hG]
      have HIH := Lib.hid hI
      obtain ⟨k0, ki, kz0, kz1, kz2⟩ := info_parts info_seg
      have hsz := hI.size
      have hln9 : l9.length ≤ 65536 := by omega
      have HOL : Hid ((W9.drew.alloc (.cells #[.int .i64 C0, .int .i64 C1, .int .i64 C2, .int .i64 C3] 65)).ownsRow W0.heap.size 65 4 v l9.length (flatS l9)) := Lib.hid (hown.drew.alloc _)
      obtain ⟨v2, w2, hrun, hown2, hg2', hv2⟩ := run_append_own (P := Tryz.prog) (W9.drew.alloc (.cells #[.int .i64 C0, .int .i64 C1, .int .i64 C2, .int .i64 C3] 65)) W0.heap.size 35 35 65 k0 (.agg #[.int .i64 0, .int .i64 0, .int .i64 0, .int .i64 0]) 4 32 Tryz.underlying35 ki kz0 kz1 kz2 rfl (by decide) v l9.length _ HOL.out ⟨W9.heap.size, 0, none⟩ 1 1 (flatS [⟨C0, C1, C2, C3⟩]) (by simp [flatS, scells]) (by rw [flatS_one]; exact new4 _ _ _ _ _ _) (flatS_ones _) (by unfold maxLen; omega) (by omega) (by show W0.heap.size ≤ (World.alloc _ _).heap.size; simp; omega)
      have hO2 : w2.ownsRow W0.heap.size 65 4 v2 (l9 ++ [segP L j]).length (flatS (l9 ++ [segP L j])) := by
        rw [flatS_append, HSG.out, List.length_append]
        exact hown2
      obtain ⟨As2, cs2, hvv, _, _⟩ := own_sgs hO2
      rw [List.length_append] at hvv
      subst hvv
      have hnG : ∀ x, v.ownBlock = some x → W0.heap.size ≤ x := fun x hx => (hown.lt x hx).1
      have hsA : (W9.drew.alloc (.cells #[.int .i64 C0, .int .i64 C1, .int .i64 C2, .int .i64 C3] 65)).heap.size = W9.heap.size + 1 := World.size_alloc _ _
      have hold2 : ∀ i, i < W0.heap.size → w2.heap[i]? = W9.heap[i]? := fun i hi => (hg2'.block i (by omega) (fun h => by have := hnG i h.symm; omega)).trans (Below.heap_alloc _ _ _ (by show i < W9.heap.size; omega))
      have hBX2 : Box5 w2 G (.int .i64 K0) (.int .i64 K1) (.int .u64 (X2.toNat : Int)) (.int .i64 K3) v := (hold2 G hlt0.2.1).trans hbx
      have hsz2 : W9.heap.size ≤ w2.heap.size := by have := hg2'.size; omega
      have hother : ∀ i, i ≠ G → (w2.setCell ⟨G, 4, none⟩ (.slice As2 (l9.length + 1) cs2)).heap[i]? = w2.heap[i]? := fun i hi => heap_setCell_other _ _ _ _ hi
      have HEND : Hid (KeepsOthers W9 (w2.setCell ⟨G, 4, none⟩ (.slice As2 (l9.length + 1) cs2)) ∧ KpC W1.heap.size (W1.heap.size + 1) W9 (w2.setCell ⟨G, 4, none⟩ (.slice As2 (l9.length + 1) cs2)) ∧ MSt W0 G K0 K1 X2 K3 (l9 ++ [segP L j]) (w2.setCell ⟨G, 4, none⟩ (.slice As2 (l9.length + 1) cs2))) := Lib.hid (by
        have hGne : ∀ i, i = W1.heap.size ∨ i = W1.heap.size + 1 → i ≠ G := fun i hi => by have := HS.out.2; omega
        refine ⟨⟨by rw [World.size_setCell]; exact hsz2, fun k o hk ho => ?_⟩, ⟨?_, ?_⟩, ?_⟩
        · have hkG : k ≠ G := fun e => by
            rw [e, hbx] at hk
            injection hk with hk
            subst hk
            cases ho
          have hkl : k < W9.heap.size := (Array.getElem?_eq_some_iff.1 hk).1
          refine (hother k hkG).trans (((hg2'.block k (by omega) (fun h => ?_)).trans (Below.heap_alloc _ _ _ (by exact hkl))).trans hk)
          obtain ⟨g, cap, cur, hv, hb2, hg3, _⟩ : ∃ g cap cur, v = .slice (some ⟨g, 0, none⟩) l9.length cap ∧ W0.heap.size ≤ g ∧ W9.heap[g]? = some (.cells cur 65 (0, 0)) ∧ True := by
            rcases hown.2 with ⟨rfl, _⟩ | ⟨g, cap, cur, hv, hb2, hg3, _⟩
            · cases h
            · exact ⟨g, cap, cur, hv, hb2, hg3, trivial⟩
          have hgk : g = k := by
            rw [hv] at h
            have : some k = some g := h
            injection this with this
            exact this.symm
          rw [← hgk, hg3] at hk
          injection hk with hk
          subst hk
          cases ho
        · exact (hother _ (hGne _ (.inl rfl))).trans (hold2 _ (by omega))
        · exact (hother _ (hGne _ (.inr rfl))).trans (hold2 _ (by omega))
        · refine ⟨hg2'.os.trans HIH.out.os, hg2'.tape.trans HIH.out.tape, hg2'.output.trans HIH.out.output, by rw [World.size_setCell]; omega, fun i hi hne => (hother i hne).trans ((hold2 i hi).trans (HIH.out.oth i hi hne)), _, heap_setCell_same _ _ 4 _ _ (.slice As2 (l9.length + 1) cs2) hBX2, ?_⟩
          exact ownsRow_setCell_below hO2 (by simp; omega) _)
      have RA1 : Hid ((Builtin.append_ #[35, 35] 35 #[v, .slice (some ⟨W9.heap.size, 0, none⟩) 1 1]).run Tryz.prog ((W9.alloc (.cells #[.int .i64 C0, .int .i64 C1, .int .i64 C2, .int .i64 C3] 65)).drew) = .ok (.slice As2 (l9.length + 1) cs2) w2) := Lib.hid hrun
      have d0 : W9.cell? ⟨G, 4, none⟩ = some v := hbx.facts.1.2.2.2.2
      have hbG : b < W9.heap.size ∧ G < W9.heap.size := by omega
      have d3 : w2.cell? ⟨G, 4, none⟩ = some v := hBX2.facts.1.2.2.2.2
      have d4 : w2.frozen? ⟨G, 4, none⟩ = false := hBX2.facts.2.2.2.2.2
      have up : ∀ w', Below W9.heap.size W9 w' → w'.cell? ⟨b, o, none⟩ = some (.int .u64 (Y0.toNat : Int)) ∧ w'.cell? ⟨b, o + 1, none⟩ = some (.int .u64 (Y1.toNat : Int)) ∧ w'.cell? ⟨b, o + 2, none⟩ = some (.int .u64 (Y2.toNat : Int)) ∧ w'.cell? ⟨b, o + 3, none⟩ = some (.int .u64 (Y3.toNat : Int)) ∧ w'.cell? ⟨G, 4, none⟩ = some v := fun w' hb' => ⟨cell_up hb' (p := ⟨b, o, none⟩) hbG.1 e0, cell_up hb' (p := ⟨b, o + 1, none⟩) hbG.1 e1, cell_up hb' (p := ⟨b, o + 2, none⟩) hbG.1 e2, cell_up hb' (p := ⟨b, o + 3, none⟩) hbG.1 e3, cell_up hb' (p := ⟨G, 4, none⟩) hbG.2 d0⟩
      have T1 := Lib.hid (up W9.drew (below_drew1 (Below.refl _ _)))
      have T2 := Lib.hid (up (W9.drew.alloc (.cells #[.int .i64 C0, .int .i64 C1, .int .i64 C2, .int .i64 C3] 65)) ((below_drew1 (Below.refl _ W9)).trans ((Below.refl _ W9.drew).alloc (Nat.le_refl _) _)))
      clear up hrun hown2 hg2' hv2 hnG hsA hold2 hsz2 hother hO2 hI hbx hown gc e0 e1 e2 e3 d0 hx2 hx3 HOL hpl hblk hLL hLN hG ho
      gi_wp2
      refine wpIn_mono (Q := onlyS fun _ w' => KeepsOthers W9 w' ∧ KpC W1.heap.size (W1.heap.size + 1) W9 w' ∧ MSt W0 G K0 K1 X2 K3 (l9 ++ [segP L j]) w') (round_D (fun j => j == 20 || j == 22) (fun w' => w'.cell? ⟨b, o, none⟩ = some (.int .u64 (Y0.toNat : Int)) ∧ w'.cell? ⟨b, o + 1, none⟩ = some (.int .u64 (Y1.toNat : Int)) ∧ w'.cell? ⟨b, o + 2, none⟩ = some (.int .u64 (Y2.toNat : Int)) ∧ w'.cell? ⟨b, o + 3, none⟩ = some (.int .u64 (Y3.toNat : Int)) ∧ w'.cell? ⟨G, 4, none⟩ = some v) (by kernel_rfl) (noDefer_all (by kernel_rfl)) onlyS_lets ?_) ?_
      case refine_2 =>
        intro e a9 w9 h9
        cases e <;> first | exact h9.elim | skip
        exact h9
      refine wpAnyD_take (i := 0) (v := ?_) rfl (by kernel_rfl) (fun _ _ _ h => h) (Or.inl ⟨by kernel_rfl, ?_⟩) T1.out ?_
      rotate_left
      · intro w9 h9
        obtain ⟨t1, t2, t3, t4, t5⟩ := h9
        first | (go_simp; with_reducible rfl) | go_simp
      try simp only [Act.put, List.setIfInBounds_toArray]
      refine wpAnyD_take (i := 1) (v := ?_) rfl (by kernel_rfl) (fun _ _ _ h => h) (Or.inl ⟨by kernel_rfl, ?_⟩) T1.out ?_
      rotate_left
      · intro w9 h9
        obtain ⟨t1, t2, t3, t4, t5⟩ := h9
        first | (go_simp; with_reducible rfl) | go_simp
      try simp only [Act.put]
      refine wpAnyD_take (i := 2) (v := ?_) rfl (by kernel_rfl) (fun _ _ _ h => h) (Or.inl ⟨by kernel_rfl, ?_⟩) T1.out ?_
      rotate_left
      · intro w9 h9
        obtain ⟨t1, t2, t3, t4, t5⟩ := h9
        first | (go_simp; with_reducible rfl) | go_simp
      try simp only [Act.put]
      refine wpAnyD_take (i := 3) (v := ?_) rfl (by kernel_rfl) (fun _ _ _ h => h) (Or.inl ⟨by kernel_rfl, ?_⟩) T1.out ?_
      rotate_left
      · intro w9 h9
        obtain ⟨t1, t2, t3, t4, t5⟩ := h9
        first | (go_simp; with_reducible rfl) | go_simp
      try simp only [Act.put]
      refine wpAnyD_take (i := 4) (v := ?_) rfl (by kernel_rfl) (fun _ _ _ h => h) (Or.inl ⟨by kernel_rfl, ?_⟩) T1.out ?_
      rotate_left
      · intro w9 h9
        obtain ⟨t1, t2, t3, t4, t5⟩ := h9
        first | (go_simp; with_reducible rfl) | go_simp
      try simp only [Act.put]
      refine wpAnyD_take (i := 5) (v := ?_) rfl (by kernel_rfl) (fun _ _ _ h => h) (Or.inl ⟨by kernel_rfl, ?_⟩) T1.out ?_
      rotate_left
      · intro w9 h9
        obtain ⟨t1, t2, t3, t4, t5⟩ := h9
        first | (go_simp; with_reducible rfl) | go_simp
      try simp only [Act.put]
      refine wpAnyD_take (i := 6) (v := ?_) rfl (by kernel_rfl) (fun _ _ _ h => h) (Or.inl ⟨by kernel_rfl, ?_⟩) T1.out ?_
      rotate_left
      · intro w9 h9
        obtain ⟨t1, t2, t3, t4, t5⟩ := h9
        first | (go_simp; with_reducible rfl) | go_simp
      try simp only [Act.put]
      refine wpAnyD_take (i := 7) (v := ?_) rfl (by kernel_rfl) (fun _ _ _ h => h) (Or.inl ⟨by kernel_rfl, ?_⟩) T1.out ?_
      rotate_left
      · intro w9 h9
        obtain ⟨t1, t2, t3, t4, t5⟩ := h9
        first | (go_simp; with_reducible rfl) | go_simp
      try simp only [Act.put]
      refine wpAnyD_take (i := 8) (v := ?_) rfl (by kernel_rfl) (fun _ _ _ h => h) (Or.inl ⟨by kernel_rfl, ?_⟩) T1.out ?_
      rotate_left
      · intro w9 h9
        obtain ⟨t1, t2, t3, t4, t5⟩ := h9
        first | (go_simp; with_reducible rfl) | go_simp
      try simp only [Act.put]
      refine wpAnyD_take (i := 9) (v := ?_) rfl (by kernel_rfl) (fun _ _ _ h => h) (Or.inl ⟨by kernel_rfl, ?_⟩) T1.out ?_
      rotate_left
      · intro w9 h9
        obtain ⟨t1, t2, t3, t4, t5⟩ := h9
        first | (go_simp; with_reducible rfl) | go_simp
      try simp only [Act.put]
      refine wpAnyD_take (i := 10) (v := ?_) rfl (by kernel_rfl) (fun _ _ _ h => h) (Or.inl ⟨by kernel_rfl, ?_⟩) T1.out ?_
      rotate_left
      · intro w9 h9
        obtain ⟨t1, t2, t3, t4, t5⟩ := h9
        first | (go_simp; with_reducible rfl) | go_simp
      try simp only [Act.put]
      refine wpAnyD_take (i := 11) (v := ?_) rfl (by kernel_rfl) (fun _ _ _ h => h) (Or.inl ⟨by kernel_rfl, ?_⟩) T1.out ?_
      rotate_left
      · intro w9 h9
        obtain ⟨t1, t2, t3, t4, t5⟩ := h9
        first | (go_simp; with_reducible rfl) | go_simp
      try simp only [Act.put]
      refine wpAnyD_take (i := 12) (v := ?_) rfl (by kernel_rfl) (fun _ _ _ h => h) (Or.inl ⟨by kernel_rfl, ?_⟩) T1.out ?_
      rotate_left
      · intro w9 h9
        obtain ⟨t1, t2, t3, t4, t5⟩ := h9
        first | (go_simp; with_reducible rfl) | go_simp
      try simp only [Act.put]
      refine wpAnyD_take (i := 14) (v := ?_) rfl (by kernel_rfl) (fun _ _ _ h => h) (Or.inl ⟨by kernel_rfl, ?_⟩) T1.out ?_
      rotate_left
      · intro w9 h9
        obtain ⟨t1, t2, t3, t4, t5⟩ := h9
        first | (go_simp; with_reducible rfl) | go_simp
      try simp only [Act.put]
      refine wpAnyD_take (i := 15) (v := ?_) rfl (by kernel_rfl) (fun _ _ _ h => h) (Or.inl ⟨by kernel_rfl, ?_⟩) T1.out ?_
      rotate_left
      · intro w9 h9
        obtain ⟨t1, t2, t3, t4, t5⟩ := h9
        first | (go_simp; with_reducible rfl) | go_simp
      try simp only [Act.put]
      refine wpAnyD_take (i := 16) (v := ?_) rfl (by kernel_rfl) (fun _ _ _ h => h) (Or.inl ⟨by kernel_rfl, ?_⟩) T1.out ?_
      rotate_left
      · intro w9 h9
        obtain ⟨t1, t2, t3, t4, t5⟩ := h9
        first | (go_simp; with_reducible rfl) | go_simp
      try simp only [Act.put]
      refine wpAnyD_one (j := 13) (by kernel_rfl) rfl rfl rfl (fun K hK => ?_)
      go_simp
      with_reducible refine (HZ2 _).out.mono ?_
      rintro e wy ⟨rfl, rfl⟩
      refine hK.out _ _ T1.out ?_
      clear hK K
      try simp only [Act.put, List.setIfInBounds_toArray, List.set_cons_zero, List.set_cons_succ]
      refine wpAnyD_one (j := 17) (by kernel_rfl) rfl rfl rfl (fun K hK => ?_)
      go_simp
      with_reducible refine (HZ3 _).out.mono ?_
      rintro e wy ⟨rfl, rfl⟩
      refine hK.out _ _ T1.out ?_
      clear hK K
      try simp only [Act.put, List.setIfInBounds_toArray, List.set_cons_zero, List.set_cons_succ]
      refine wpAnyD_take (i := 18) (v := ?_) rfl (by kernel_rfl) (fun _ _ _ h => h) (Or.inl ⟨by kernel_rfl, ?_⟩) T1.out ?_
      rotate_left
      · intro w9 h9
        obtain ⟨t1, t2, t3, t4, t5⟩ := h9
        first | (go_simp; with_reducible rfl) | go_simp
      try simp only [Act.put, List.setIfInBounds_toArray]
      refine wpAnyD_one (j := 19) (by kernel_rfl) rfl rfl rfl (fun K hK => ?_)
      go_simp
      refine hK.out _ _ T2.out ?_
      clear hK K
      try simp only [Act.put, List.setIfInBounds_toArray, List.set_cons_zero, List.set_cons_succ]
      refine wpAnyD_dep (j := 20) (by kernel_rfl) rfl rfl rfl (fun K hK => ?_)
      refine wp_append_at RA1 (.tmp 26) (.tmp 44) rfl rfl rfl rfl ?_ ?_
      · with_reducible rfl
      refine hK.out _ _ ?_
      clear hK K
      try simp only [Act.put, List.setIfInBounds_toArray]
      refine wpAny_one (j := 21) (by kernel_rfl) rfl rfl (fun K hK => ?_)
      go_simp
      refine hK.out _ _ ?_
      clear hK K
      try simp only [Act.put, List.setIfInBounds_toArray, List.set_cons_zero, List.set_cons_succ]
      refine wpAny_one (j := 22) (by kernel_rfl) rfl rfl (fun K hK => ?_)
      go_simp
      refine hK.out _ _ ⟨by kernel_rfl, ?_⟩
      exact HEND.out
end Go.Proofs.YtjninegpaoblfaaGreatDoor.MpOf
