/- A tree that a law lays itself: another one's nodes, and one node more, whatever order their memory is made in. Conditions: the tree lies in memory; few nodes. · The contract of the law's own moved: a tree's nodes, their kids so much further on. Conditions: the tree lies in memory; its kids are small numbers. · The contract that the laws of layer 18 take of the program, where they ask for new memory: what Parse answers lies in blocks that weren't there, and can be written. Conditions: those of RexpN. -/
import Derived.Test.YtdmbgjpidlllcaaRxParses
import Derived.Test.YtdmbgjpidlllcaaPlains
import Derived.Test.YtdmbgjpidlllcaaRxJoins
import Derived.Deep.CutBlock
namespace Go.Proofs.Ytdmbgjpidlllcaa.RxWant
open Go Go.RowKit Words AppN Km Mo_ RxSpec RxTree RxEq RxMem RxPeek RxHas RxClean RxNode RxSize RegD


theorem wp_append_at {P : Program} {o : Oper} {a : Act} {w : World} {K : Act → World → Prop} {Q : Exit → Act → World → Prop} {t ty : TypeId} {vs vx v' : Value} {w0 w' : World}
    (hrun : Hid ((Builtin.append_ #[t, t] ty #[vs, vx]).run P w0 = .ok v' w')) (s x : Operand) (hop : o.op = Op.call { callee := Callee.builtin Builtin.append, args := #[s, x], argTypes := #[t, t] }) (hty : o.type = ty)
    (hs : a.eval s = vs) (hx : a.eval x = vx) (hw : w = w0) (hK : K (a.put o.dst v') w') : o.wp P a w K Q := by
  have hr := hrun.out
  subst hty hs hx hw
  unfold Oper.wp
  simp [execOp, hop, resolve, invoke, builtin, hr, Result.andThen]
  exact hK
section
variable {P : Program} {md : Region.Mode} {ops : Array Oper} {Q : Exit → Act → World → Prop} {S : World → Prop} {dep : Nat → Bool}
/-- Either of two may come up. -/
theorem wpAnyD_two {i j : Nat} {oi oj : Oper} {f : Nat} {L : Array Bool} {a : Act} {w : World} (hr : Region.ready md ops L = [i, j]) (hdi : dep i = false) (hdj : dep j = false) (hi : ops[i]? = some oi) (hgi : oi.guard = none) (hj : ops[j]? = some oj) (hgj : oj.guard = none)
    (h1 : ∀ K : Act → World → Prop, Hid (∀ a' w', S w' → wpAnyD P md ops Q S dep f (L.setIfInBounds i true) a' w' → K a' w') → oi.wp P a w K Q)
    (h2 : ∀ K : Act → World → Prop, Hid (∀ a' w', S w' → wpAnyD P md ops Q S dep f (L.setIfInBounds j true) a' w' → K a' w') → oj.wp P a w K Q) : wpAnyD P md ops Q S dep (f + 1) L a w :=
  ⟨fun h0 => (by rw [hr] at h0; cases h0), fun k hk => by
    rw [hr] at hk
    rcases List.mem_cons.1 hk with rfl | hk
    · exact ⟨fun e => (by rw [hdi] at e; cases e), fun _ => wpOp_alone hi hgi (h1 _ (Lib.hid fun _ _ h1 h2 => ⟨h1, h2⟩))⟩
    · obtain rfl : k = j := by simpa using hk
      exact ⟨fun e => (by rw [hdj] at e; cases e), fun _ => wpOp_alone hj hgj (h2 _ (Lib.hid fun _ _ h1 h2 => ⟨h1, h2⟩))⟩⟩
end
theorem flatN_onesW (l : List NM) : ∀ u ∈ flatN l, u.oneCell' = true := by
  intro u hu
  unfold flatN at hu
  obtain ⟨m, _, hm⟩ := List.mem_flatMap.1 hu
  exact ncells_ones m u hm
def newN (kind : Nat) (kids : List Nat) (lo hi : Int) (k : Nat) : NM := ⟨⟨kind, kids, lo, hi, []⟩, (some ⟨k, 0, none⟩, kids.length, kids.length), (none, 0, 0)⟩
def nodeA (kind : Nat) (n : Nat) (lo hi : Int) (k : Nat) : Array Value := #[.int .i64 (kind : Int), .slice (some ⟨k, 0, none⟩) n n, .int .i64 lo, .int .i64 hi, .slice none 0 0]
theorem nodeA_list (kind : Nat) (kids : List Nat) (lo hi : Int) (k : Nat) : (nodeA kind kids.length lo hi k).toList = ncells (newN kind kids lo hi k) := rfl
/-- What has been made so far: an empty row e, the tree's nodes v, the kids' block k, the node's block n. -/
structure Q4 (W X : World) (l : List NM) (kind : Nat) (kids : List Nat) (lo hi : Int) (e : Option Nat) (v : Option Value) (k n : Option Nat) : Prop where
  below : Below W.heap.size W X
  emp : ∀ g, e = some g → X.ownsRow W.heap.size 33 5 (.slice (some ⟨g, 0, none⟩) 0 0) 0 []
  row : ∀ u, v = some u → X.ownsRow W.heap.size 33 5 u l.length (flatN l)
  kid : ∀ g, k = some g → W.heap.size ≤ g ∧ g < X.heap.size ∧ X.heap[g]? = some (.cells (kids.map IV).toArray 3 (0, 0))
  nod : ∀ g, n = some g → W.heap.size ≤ g ∧ g < X.heap.size ∧ ∃ q, k = some q ∧ X.heap[g]? = some (.cells (nodeA kind kids.length lo hi q) 33 (0, 0))
  sepk : ∀ g, k = some g → e ≠ some g ∧ ∀ u, v = some u → u.ownBlock ≠ some g
  sepn : ∀ g, n = some g → e ≠ some g ∧ ∀ u, v = some u → u.ownBlock ≠ some g
section
variable {W X : World} {l : List NM} {kind : Nat} {kids : List Nat} {lo hi : Int} {e : Option Nat} {v : Option Value} {k n : Option Nat}
theorem Q4.zero (W : World) : Q4 W W l kind kids lo hi none none none none := ⟨Below.refl _ _, (fun _ h => by cases h), (fun _ h => by cases h), (fun _ h => by cases h), (fun _ h => by cases h), (fun _ h => by cases h), fun _ h => by cases h⟩
theorem lt_of_heap {w : World} {g : Nat} {o : Obj} (h : w.heap[g]? = some o) : g < w.heap.size := (Array.getElem?_eq_some_iff.1 h).1
theorem Q4.emp_ (h : Q4 W X l kind kids lo hi none none k n) : Q4 W (X.alloc (.cells #[] 33)) l kind kids lo hi (some X.heap.size) none k n := by
  refine ⟨h.below.alloc h.below.size _, fun g hg => ?_, (fun _ h => by cases h), fun g hg => ?_, fun g hg => ?_, fun g hg => ⟨fun e => ?_, fun _ h => by cases h⟩, fun g hg => ⟨fun e => ?_, fun _ h => by cases h⟩⟩
  · injection hg with hg
    subst hg
    exact World.ownsRow_lit (base := W.heap.size) (e := 33) (size := 5) X #[] 0 h.below.size (by unfold maxLen; omega) rfl
  · obtain ⟨h1, h2, h3⟩ := h.kid g hg
    exact ⟨h1, by simp; omega, (heap_alloc_old X _ h2).trans h3⟩
  · obtain ⟨h1, h2, q, h4, h3⟩ := h.nod g hg
    exact ⟨h1, by simp; omega, q, h4, (heap_alloc_old X _ h2).trans h3⟩
  · injection e with e
    have := (h.kid g hg).2.1
    omega
  · injection e with e
    have := (h.nod g hg).2.1
    omega
theorem Q4.kid_ (h : Q4 W X l kind kids lo hi e v none none) : Q4 W (X.alloc (.cells (kids.map IV).toArray 3)) l kind kids lo hi e v (some X.heap.size) none := by
  refine ⟨h.below.alloc h.below.size _, fun g hg => (h.emp g hg).alloc _, fun u hu => (h.row u hu).alloc _, fun g hg => ?_, (fun _ h => by cases h), fun g hg => ⟨fun he => ?_, fun u hu hb => ?_⟩, fun _ h => by cases h⟩
  · injection hg with hg
    subst hg
    exact ⟨h.below.size, by simp, heap_alloc_new X _⟩
  · injection hg with hg
    subst hg
    have h9 : X.heap.size < X.heap.size := ((h.emp _ he).lt _ rfl).2
    omega
  · injection hg with hg
    subst hg
    have := ((h.row u hu).lt _ hb).2
    omega
theorem Q4.nod_ {q : Nat} (h : Q4 W X l kind kids lo hi e v (some q) none) : Q4 W (X.alloc (.cells (nodeA kind kids.length lo hi q) 33)) l kind kids lo hi e v (some q) (some X.heap.size) := by
  refine ⟨h.below.alloc h.below.size _, fun g hg => (h.emp g hg).alloc _, fun u hu => (h.row u hu).alloc _, fun g hg => ?_, fun g hg => ?_, h.sepk, fun g hg => ⟨fun he => ?_, fun u hu hb => ?_⟩⟩
  · obtain ⟨h1, h2, h3⟩ := h.kid g hg
    exact ⟨h1, by simp; omega, (heap_alloc_old X _ h2).trans h3⟩
  · injection hg with hg
    subst hg
    exact ⟨h.below.size, by simp, q, rfl, heap_alloc_new X _⟩
  · injection hg with hg
    subst hg
    have h9 : X.heap.size < X.heap.size := ((h.emp _ he).lt _ rfl).2
    omega
  · injection hg with hg
    subst hg
    have := ((h.row u hu).lt _ hb).2
    omega
/-- The tree's nodes onto the empty row. -/
theorem Q4.app_ {g0 : Nat} (h : Q4 W X l kind kids lo hi (some g0) none k n) {A : Option Addr} {c : Nat} (hr : Rd W W.heap.size A (flatN l)) (hl : l.length ≤ 1000000) :
    ∃ v1 X1, (Builtin.append_ #[23, 23] 23 #[.slice (some ⟨g0, 0, none⟩) 0 0, .slice A l.length c]).run Try.prog X = .ok v1 X1 ∧ Q4 W X1 l kind kids lo hi none (some v1) k n := by
  obtain ⟨i0, hinf, hz0, hz1, hz2⟩ := info_parts info_node
  obtain ⟨v1, X1, h1, h2, h3, h4⟩ := AppN.run_append_rd (P := Try.prog) X W.heap.size 5 23 23 33 i0 _ 72 Try.underlying23 hinf hz0 hz1 hz2 rfl (by decide) _ 0 [] (h.emp _ rfl) W.heap.size A l.length c (flatN l) (flatN_len l) (hr.below h.below) (flatN_onesW l) (by unfold maxLen; omega) (by omega) h.below.size
  refine ⟨v1, X1, h1, ⟨h.below.grown h3 h.below.size (fun j hj => ((h.emp _ rfl).lt j hj).1), (fun _ h => by cases h), fun u hu => ?_, fun g hg => ?_, fun g hg => ?_, fun g hg => ⟨(fun h => by cases h), fun u hu hb => ?_⟩, fun g hg => ⟨(fun h => by cases h), fun u hu hb => ?_⟩⟩⟩
  · injection hu with hu
    subst hu
    simpa using h2
  · obtain ⟨y1, y2, y3⟩ := h.kid g hg
    exact ⟨y1, by have := h3.size; omega, (h3.block g y2 (fun e => (h.sepk g hg).1 (by simpa [Value.ownBlock] using e.symm))).trans y3⟩
  · obtain ⟨y1, y2, q, y4, y3⟩ := h.nod g hg
    exact ⟨y1, by have := h3.size; omega, q, y4, (h3.block g y2 (fun e => (h.sepn g hg).1 (by simpa [Value.ownBlock] using e.symm))).trans y3⟩
  · injection hu with hu
    subst hu
    rcases h4 with h4 | h4
    · rw [h4] at hb; exact (h.sepk g hg).1 (by simpa [Value.ownBlock] using hb)
    · rw [h4] at hb; injection hb with hb; have := (h.kid g hg).2.1; omega
  · injection hu with hu
    subst hu
    rcases h4 with h4 | h4
    · rw [h4] at hb; exact (h.sepn g hg).1 (by simpa [Value.ownBlock] using hb)
    · rw [h4] at hb; injection hb with hb; have := (h.nod g hg).2.1; omega
/-- The node behind them. -/
theorem Q4.fin_ {v1 : Value} {q gn : Nat} (h : Q4 W X l kind kids lo hi none (some v1) (some q) (some gn)) {A : Option Addr} {c : Nat} (ht : Tr W A c l) (hl : l.length ≤ 1000000) (hk : kids.length ≤ 1000000) (hlo : lo ≤ 1000000) (hhi : hi ≤ 1000000) :
    ∃ A2 c2 X2, (Builtin.append_ #[23, 23] 23 #[v1, .slice (some ⟨gn, 0, none⟩) 1 1]).run Try.prog X = .ok (.slice A2 (l.length + 1) c2) X2 ∧ Tr X2 A2 c2 (l ++ [newN kind kids lo hi q]) ∧ Below W.heap.size W X2 ∧
      X2.ownsRow W.heap.size 33 5 (.slice A2 (l.length + 1) c2) (l.length + 1) (flatN (l ++ [newN kind kids lo hi q])) ∧ (∀ g off, A2 = some ⟨g, off, none⟩ → g ≠ q ∧ W.heap.size ≤ g) := by
  obtain ⟨i0, hinf, hz0, hz1, hz2⟩ := info_parts info_node
  obtain ⟨n1, n2, q', n4, n3⟩ := h.nod gn rfl
  injection n4 with n4
  subst n4
  obtain ⟨k1, k2, k3⟩ := h.kid q rfl
  have hnew : ∀ j u, (ncells (newN kind kids lo hi q))[j]? = some u → X.cell? ((⟨gn, 0, none⟩ : Addr).add j) = some u := by
    intro j u hj
    rw [add_off, Nat.zero_add]
    exact RxMem.cell_of_row n3 (by rw [← nodeA_list] at hj; simpa using hj)
  obtain ⟨v2, X2, h1, h2, h3, h4, h5⟩ := run_append_own_at (P := Try.prog) X W.heap.size 23 23 33 i0 _ 5 72 Try.underlying23 hinf hz0 hz1 hz2 rfl (by decide) v1 l.length _ (h.row v1 rfl) ⟨gn, 0, none⟩ 1 1 (ncells (newN kind kids lo hi q)) rfl hnew (ncells_ones _) (by unfold maxLen; omega) (by omega) h.below.size
  obtain ⟨A2, c2, rfl⟩ := own_sl h2
  have hb2 : Below W.heap.size W X2 := h.below.grown h3 h.below.size (fun j hj => ((h.row v1 rfl).lt j hj).1)
  have hown : X2.ownsRow W.heap.size 33 5 (.slice A2 (l.length + 1) c2) (l.length + 1) (flatN (l ++ [newN kind kids lo hi q])) := by
    rw [flatN_append, flatN_one]; exact h2
  have hat := RxParse.own_at hown (by rw [flatN_len, List.length_append]; rfl)
  refine ⟨A2, c2, X2, h1, ⟨hat.1, by rw [List.length_append]; exact hat.2.1, hat.2.2, fun m hm => ?_, fun m hm => ?_, fun m hm => ?_⟩, hb2, hown, fun g off hA => ?_⟩
  · rcases List.mem_append.1 hm with hm | hm
    · exact (ht.up hb2).each m hm
    · obtain rfl : m = newN kind kids lo hi q := by simpa using hm
      refine ⟨some ⟨q, 0, none⟩, kids.length, rfl, fun _ => ⟨q, 0, rfl, by have := h3.size; omega, fun j u hu => ?_⟩, Nat.le_refl _, by unfold maxLen; omega⟩
      rw [Nat.zero_add]
      refine (World.cell?_of_block (a := ⟨q, j, none⟩) (h3.block q k2 (fun e => (h.sepk q rfl).2 v1 rfl e.symm))).trans (RxMem.cell_of_row k3 ?_)
      simpa [newN] using hu
  · rcases List.mem_append.1 hm with hm | hm
    · exact (ht.up hb2).sets m hm
    · obtain rfl : m = newN kind kids lo hi q := by simpa using hm
      exact ⟨none, 0, rfl, Rd.nil_, Nat.le_refl _, Nat.zero_le _⟩
  · rcases List.mem_append.1 hm with hm | hm
    · exact ht.small m hm
    · obtain rfl : m = newN kind kids lo hi q := by simpa using hm
      exact ⟨hlo, hhi⟩
  · subst hA
    refine ⟨fun e => ?_, (hown.lt g rfl).1⟩
    subst e
    rcases h5 with h5 | h5
    · exact (h.sepk g rfl).2 v1 rfl (h5.symm.trans rfl)
    · injection (show some g = some X.heap.size from h5) with h6
      omega
/-- An append by its run. -/
theorem wpList_append_at {P : Program} {ops : Array Oper} {rest : List Oper} {o : Oper} {a : Act} {w : World} {Q : Exit → Act → World → Prop} {t ty : TypeId} {vs vx v' : Value} {w0 w' : World} (hgd : o.guard = none)
    (hrun : Hid ((Builtin.append_ #[t, t] ty #[vs, vx]).run P w0 = .ok v' w')) (s x : Operand) (hop : o.op = Op.call { callee := Callee.builtin Builtin.append, args := #[s, x], argTypes := #[t, t] }) (hty : o.type = ty)
    (hs : a.eval s = vs) (hx : a.eval x = vx) (hw : w = w0) (h : wpList P ops Q rest (a.put o.dst v') w') : wpList P ops Q (o :: rest) a w :=
  wpList_plain hgd fun _ hK => wp_append_at hrun s x hop hty hs hx hw (hK _ _ h)
/-- The last node's kind, stored anew. -/
theorem Tr.kind4 {W X : World} {g c2 q : Nat} {l : List NM} {kind : Nat} {kids : List Nat} {lo hi : Int} (kind' : Nat) (hown : X.ownsRow W.heap.size 33 5 (.slice (some ⟨g, 0, none⟩) (l.length + 1) c2) (l.length + 1) (flatN (l ++ [newN kind kids lo hi q])))
    (hsep : g ≠ q ∧ W.heap.size ≤ g) (hb : Below W.heap.size W X) {A : Option Addr} {c : Nat} (ht : Tr W A c l) (hX : Tr X (some ⟨g, 0, none⟩) c2 (l ++ [newN kind kids lo hi q])) :
    Tr (X.setCell ⟨g, l.length * 5, none⟩ (.int .i64 (kind' : Int))) (some ⟨g, 0, none⟩) c2 (l ++ [newN kind' kids lo hi q]) ∧ X.frozen? ⟨g, l.length * 5, none⟩ = false ∧ (∃ u, X.cell? ⟨g, l.length * 5, none⟩ = some u) ∧ Below W.heap.size W (X.setCell ⟨g, l.length * 5, none⟩ (.int .i64 (kind' : Int))) := by
  have hk1 : l.length < (l ++ [newN kind kids lo hi q]).length := by simp
  have hbX := hb.setCell (show W.heap.size ≤ (⟨g, l.length * 5, none⟩ : Addr).block from hsep.2) (.int .i64 (kind' : Int))
  obtain ⟨g', o', e', hg', hc'⟩ := hX.rd (by rw [flatN_len]; simp)
  injection e' with e'
  injection e' with e1 e2 _
  subst e1 e2
  have hat := flatN_at hk1
  have hcell := hc' _ _ hat.1
  rw [Nat.zero_add] at hcell
  have hfr : X.frozen? ⟨g, l.length * 5, none⟩ = false := by
    rcases hown.2 with ⟨e, _⟩ | ⟨g2, cap, cur, e, _, hg, _⟩
    · cases e
    · injection e with e _ _
      injection e with e
      injection e with e
      subst e
      exact frozen_of_row _ _ _ _ _ hg
  refine ⟨⟨fun _ => ⟨g, 0, rfl, by rw [World.size_setCell]; exact hg', fun j u hj => ?_⟩, by have := hX.le; simpa using this, hX.cap, fun m hm => ?_, fun m hm => ?_, fun m hm => ?_⟩, hfr, ⟨_, hcell⟩, hbX⟩
  · rw [Nat.zero_add]
    have e5 : ∀ kd, flatN (l ++ [newN kd kids lo hi q]) = flatN l ++ .int .i64 (kd : Int) :: (ncells (newN kd kids lo hi q)).tail := fun kd => by rw [flatN_append, flatN_one]; rfl
    rw [e5] at hj
    by_cases hjk : j = l.length * 5
    · subst hjk
      rw [List.getElem?_append_right (Nat.le_of_eq (flatN_len l)), flatN_len, Nat.sub_self] at hj
      injection hj with hj
      subst hj
      exact World.cell?_setCell_same X ⟨g, l.length * 5, none⟩ _ hcell
    · rw [World.cell?_setCell_other X ⟨g, l.length * 5, none⟩ ⟨g, j, none⟩ _ (fun e => hjk (by have := congrArg Addr.off e; first | exact this | exact this.symm))]
      have := hc' j u (by
        rw [e5]
        rcases Nat.lt_or_ge j (l.length * 5) with h | h
        · rw [List.getElem?_append_left (by rw [flatN_len]; exact h)] at hj ⊢
          exact hj
        · rw [List.getElem?_append_right (by rw [flatN_len]; exact h), flatN_len] at hj ⊢
          obtain ⟨k, hk⟩ : ∃ k, j - l.length * 5 = k + 1 := ⟨j - l.length * 5 - 1, by omega⟩
          rw [hk] at hj ⊢
          rw [List.getElem?_cons_succ] at hj ⊢
          exact hj)
      rwa [Nat.zero_add] at this
  · rcases List.mem_append.1 hm with hm | hm
    · exact (ht.up hbX).each m hm
    · obtain rfl : m = newN kind' kids lo hi q := by simpa using hm
      obtain ⟨B, cB, h1, h2, h3, h4⟩ := hX.each (newN kind kids lo hi q) (by simp)
      refine ⟨B, cB, h1, fun hn => ?_, h3, h4⟩
      obtain ⟨b, off, e, hb2, hc2⟩ := h2 hn
      have e9 : B = some ⟨q, 0, none⟩ := by
        have := h1
        unfold newN at this
        simp only [Prod.mk.injEq] at this
        exact this.1.symm
      rw [e9] at e
      injection e with e
      injection e with e1 e2 _
      subst e1 e2
      refine ⟨q, 0, e9, by rw [World.size_setCell]; exact hb2, fun j u hj => ?_⟩
      rw [World.cell?_setCell_other X ⟨g, l.length * 5, none⟩ ⟨q, 0 + j, none⟩ _ (fun e => hsep.1 (by have := congrArg Addr.block e; first | exact this | exact this.symm))]
      exact hc2 j u hj
  · rcases List.mem_append.1 hm with hm | hm
    · exact (ht.up hbX).sets m hm
    · obtain rfl : m = newN kind' kids lo hi q := by simpa using hm
      exact ⟨none, 0, rfl, Rd.nil_, Nat.le_refl _, Nat.zero_le _⟩
  · rcases List.mem_append.1 hm with hm | hm
    · exact ht.small m hm
    · obtain rfl : m = newN kind' kids lo hi q := by simpa using hm
      exact hX.small (newN kind kids lo hi q) (by simp)
end
end Go.Proofs.Ytdmbgjpidlllcaa.RxWant

namespace Go.Proofs.Ytdmbgjpidlllcaa.RxMvd
open Go Go.RowKit Words AppN Km Mo_ RxSpec RxTree RxEq RxMem RxPeek RxHas RxClean RxNode RxPost RxAll RxSize RxSmall RxText RxParse RxSame RegD RxWant RxJoinP

/-- A node that was moved: its kids not in the row of v, its set as it was. -/
structure OkV (W wr : World) (ms : List NM) (v : Value) (m : NM) : Prop where
  kids : ∃ (A : Option Addr) (c : Nat), m.ks = (A, m.nd.kids.length, c) ∧ Rd wr wr.heap.size A (m.nd.kids.map IV) ∧ m.nd.kids.length ≤ c ∧ c ≤ maxLen ∧ ∀ b off, A = some ⟨b, off, none⟩ → 0 < m.nd.kids.length → v.ownBlock ≠ some b ∧ W.heap.size ≤ b
  sets : ∃ m0 ∈ ms, m.ss = m0.ss ∧ m.nd.set = m0.nd.set
  small : m.nd.lo ≤ 1000000 ∧ m.nd.hi ≤ 1000000
def MRel (W : World) (ms : List NM) (d : Nat) (v vi : Value) (wr : World) : Prop := ∃ (i : Nat) (ds : List NM), i ≤ ms.length ∧ vi = .int .i64 (i : Int) ∧ Hid (nds ds = ((nds ms).take i).map (mvNd d)) ∧ Hid (wr.ownsRow W.heap.size 33 5 v i (flatN ds)) ∧ Hid (∀ m ∈ ds, OkV W wr ms v m) ∧ Hid (Below W.heap.size W wr)
/-- Inside: so many kids moved, in the node's box. -/
structure KSt (Wb wr : World) (G : Nat) (nd : Nd) (d : Nat) (S : Value) (k : Nat) : Prop where
  below : Below G Wb wr
  lt : G < wr.heap.size
  kid : ∃ kv, wr.heap[G]? = some (.cells #[.int .i64 (nd.kind : Int), kv, .int .i64 nd.lo, .int .i64 nd.hi, S] 33 (0, 0)) ∧ wr.ownsRow (G + 1) 3 1 kv k (((nd.kids.take k).map (· + d)).map IV)
def KRel (Wb : World) (G : Nat) (nd : Nd) (d : Nat) (S : Value) (vk : Value) (wr : World) : Prop := ∃ k : Nat, k ≤ nd.kids.length ∧ vk = .int .i64 (k : Int) ∧ Hid (KSt Wb wr G nd d S k)
theorem node_full {w : World} {A : Option Addr} {c : Nat} {ms : List NM} (h : Tr w A c ms) {k : Nat} (hk : k < ms.length) {nd : Nd} (hn : (ms[k]).nd = nd) :
    ∃ g off A1 c1 A2 c2, A = some ⟨g, off, none⟩ ∧ g < w.heap.size ∧ w.cell? ⟨g, off + k * 5, none⟩ = some (.int .i64 (nd.kind : Int)) ∧ w.cell? ⟨g, off + k * 5 + 1, none⟩ = some (.slice A1 nd.kids.length c1) ∧ w.cell? ⟨g, off + k * 5 + 2, none⟩ = some (.int .i64 nd.lo) ∧ w.cell? ⟨g, off + k * 5 + 3, none⟩ = some (.int .i64 nd.hi) ∧ w.cell? ⟨g, off + k * 5 + 4, none⟩ = some (.slice A2 nd.set.length c2) ∧
      nd.kids.length ≤ c1 ∧ c1 ≤ maxLen ∧ nd.set.length ≤ c2 ∧ c2 ≤ maxLen ∧ Rd w w.heap.size A1 (nd.kids.map IV) ∧ Rd w w.heap.size A2 (nd.set.map I32) ∧ nd.lo ≤ 1000000 ∧ nd.hi ≤ 1000000 ∧ (ms[k]).ss = (A2, (ms[k]).nd.set.length, c2) := by
  obtain ⟨g, off, rfl, hg, hc⟩ := h.rd (by rw [flatN_len]; omega)
  obtain ⟨A1, c1, e1, r1, h1, h2⟩ := h.each _ (List.getElem_mem hk)
  obtain ⟨A2, c2, e2, r2, h3, h4⟩ := h.sets _ (List.getElem_mem hk)
  have hsm := h.small _ (List.getElem_mem hk)
  have hrd := flatN_at hk
  have e2' := e2
  rw [e1, e2, hn] at hrd
  rw [hn] at r1 r2 h1 h3 hsm
  exact ⟨g, off, A1, c1, A2, c2, rfl, hg, hc _ _ hrd.1, hc _ _ hrd.2.1, hc _ _ hrd.2.2.1, hc _ _ hrd.2.2.2.1, hc _ _ hrd.2.2.2.2, h1, h2, h3, h4, r1, r2, hsm.1, hsm.2, e2'⟩
set_option maxHeartbeats 3200000 in
set_option maxRecDepth 100000 in
theorem moved_any (w : World) (A : Option Addr) (c : Nat) (ms : List NM) (d : Nat) (ht : Tr w A c ms) (hl : ms.length ≤ 1000000) (hk : ∀ m ∈ ms, m.nd.kids.length ≤ 1000000 ∧ ∀ y ∈ m.nd.kids, y ≤ 1000000) (hd : d ≤ 1000000) :
    Calls Try.prog 12 #[.slice A ms.length c, .int .i64 (d : Int)] w fun e w' => ∃ (A' : Option Addr) (c' : Nat) (ds : List NM), e = .returned (.slice A' ms.length c') ∧ ds.length = ms.length ∧ nds ds = (nds ms).map (mvNd d) ∧ Tr w' A' c' ds ∧ Below w.heap.size w w' ∧ (∀ m ∈ ds, (∃ m0 ∈ ms, m.ss = m0.ss ∧ m.nd.set = m0.nd.set) ∧ ∀ b off, m.ks.1 = some ⟨b, off, none⟩ → 0 < m.nd.kids.length → w.heap.size ≤ b) := by
  have HT := Lib.hid ht
  have HK := Lib.hid hk
  clear ht hk
  obtain ⟨i0', hinf, hz0, hz1, hz2⟩ := info_parts info_node
  obtain ⟨i1', jinf, jz0, jz1, jz2⟩ := RxPost.info_int
  go_enter Try.func12, Try.ntmps12
  go_wp2
  go_loopw [5, 6] (fun v vi wr => MRel w ms d v vi wr) (fun _ vi _ => ms.length - (intOf vi).toNat)
  case atStart => exact ⟨0, [], Nat.zero_le _, rfl, Lib.hid (by simp [nds]), Lib.hid (World.ownsRow_nil _ _ _ _), Lib.hid (fun _ h => by cases h), Lib.hid (Below.refl _ _)⟩
  case round =>
    obtain ⟨i, ds, hi, rfl, HD, HO, HV, HBr⟩ := hrel
    by_cases hlt : i < ms.length
    case neg =>
      have d1 : decide ((i : Int) < (ms.length : Int)) = false := decide_eq_false (by omega)
      obtain rfl : i = ms.length := by omega
      go_wp2
      go_ret
      obtain ⟨A', c', rfl⟩ := own_sl HO.out
      have hdl : ds.length = ms.length := by
        have := congrArg List.length HD.out
        simpa [nds] using this
      have hat := RxParse.own_at HO.out (by rw [flatN_len, hdl])
      refine ⟨A', c', ds, rfl, hdl, by rw [HD.out, ← nds_len ms, List.take_length], ⟨hat.1, by rw [hdl]; exact hat.2.1, hat.2.2, fun m hm => ?_, fun m hm => ?_, fun m hm => ((HV.out m hm).small)⟩, HBr.out, fun m hm => ⟨(HV.out m hm).sets, fun b off e hn => ?_⟩⟩
      · obtain ⟨B, e, k1, k2, k3, k4, _⟩ := (HV.out m hm).kids
        exact ⟨B, e, k1, k2, k3, k4⟩
      · obtain ⟨m0, hm0, e1, e2⟩ := (HV.out m hm).sets
        obtain ⟨B, e, k1, k2, k3, k4⟩ := HT.out.sets m0 hm0
        rw [e1, e2]
        exact ⟨B, e, k1, rd_up k2 HBr.out, k3, k4⟩
      · obtain ⟨B, e', k1, k2, k3, k4, k5⟩ := (HV.out m hm).kids
        rw [k1] at e
        exact (k5 b off e hn).2
    case pos =>
      have d1 : decide ((i : Int) < (ms.length : Int)) = true := decide_eq_true (by omega)
      have i0 : (0 : Int) ≤ (i : Int) := by omega
      have i1 : (i : Int) < (ms.length : Int) := by omega
      obtain ⟨nd, hnd⟩ : ∃ nd, (ms[i]).nd = nd := ⟨_, rfl⟩
      obtain ⟨g1, o1, A1, c1, A2, c2, hA, hg1, y0, y1, y2, y3, y4, x5, x6, x7, x8, r1, r2, s1, s2, e2⟩ := node_full HT.out hlt hnd
      subst hA
      have x0 := cell_up HBr.out (p := ⟨g1, o1 + i * 5, none⟩) hg1 y0
      have x1 := cell_up HBr.out (p := ⟨g1, o1 + i * 5 + 1, none⟩) hg1 y1
      have x2 := cell_up HBr.out (p := ⟨g1, o1 + i * 5 + 2, none⟩) hg1 y2
      have x3 := cell_up HBr.out (p := ⟨g1, o1 + i * 5 + 3, none⟩) hg1 y3
      have x4 := cell_up HBr.out (p := ⟨g1, o1 + i * 5 + 4, none⟩) hg1 y4
      have X1 := Lib.hid y1
      have R1 := Lib.hid r1
      have R2 := Lib.hid r2
      have X8 := Lib.hid x8
      have X7 := Lib.hid x7
      have HS := Lib.hid (And.intro s1 s2)
      obtain ⟨HKl, HKy⟩ := HK.out _ (List.getElem_mem hlt)
      have HTK : Hid ((nds ms).take (i + 1) = (nds ms).take i ++ [nd]) := Lib.hid (by
        have hl2 : i < (nds ms).length := by rw [nds_len]; exact hlt
        rw [List.take_succ_eq_append_getElem hl2]
        congr 2
        simp [nds, hnd])
      rw [hnd] at HKl HKy
      have HSRC : Hid (∃ m0 ∈ ms, ((A2, nd.set.length, c2) : Sl) = m0.ss ∧ nd.set = m0.nd.set) := Lib.hid ⟨ms[i], List.getElem_mem hlt, by rw [← hnd]; exact e2.symm, by rw [hnd]⟩
      clear e2
      clear y0 y1 y2 y3 y4 r1 r2 s1 s2 hnd x7 x8
      unfold maxLen at x6
      obtain ⟨kind, kids, lo, hh, set⟩ := nd
      simp only at x0 x1 x2 x3 x4 x5 HKl HKy
      have HKY := Lib.hid HKy
      clear HKy
      have hGw : w.heap.size ≤ wr.heap.size := HBr.out.size
      obtain ⟨Wi, hWi⟩ : ∃ X, X = wr := ⟨wr, rfl⟩
      subst hWi
      go_wp2
      go_loopw [8] (fun vk wk => KRel Wi Wi.heap.size ⟨kind, kids, lo, hh, set⟩ d (.slice A2 set.length c2) vk wk) (fun vk _ => kids.length - (intOf vk).toNat)
      case atStart => exact ⟨0, Nat.zero_le _, rfl, Lib.hid ⟨(Below.refl _ _).alloc (Nat.le_refl _) _, by simp, .slice none 0 0, heap_alloc_new Wi _, World.ownsRow_nil _ _ _ _⟩⟩
      case round =>
        obtain ⟨k, hk, rfl, HKS⟩ := hrel
        have z1 := cell_up (HBr.out.trans (HKS.out.below.mono hGw)) (p := ⟨g1, o1 + i * 5 + 1, none⟩) hg1 X1.out
        obtain ⟨kv, hbox, hown⟩ := HKS.out.kid
        have b0 := RxMem.cell_of_row (j := 0) hbox rfl
        have b1 := RxMem.cell_of_row (j := 1) hbox rfl
        have b2 := RxMem.cell_of_row (j := 2) hbox rfl
        have b3 := RxMem.cell_of_row (j := 3) hbox rfl
        have b4 := RxMem.cell_of_row (j := 4) hbox rfl
        have HBX := Lib.hid hbox
        have HOW := Lib.hid hown
        clear hbox hown x0 x1 x2 x3 x4
        simp only at hk
        by_cases hkl : k < kids.length
        case neg =>
          have d2 : decide ((k : Int) < (kids.length : Int)) = false := decide_eq_false (by omega)
          obtain rfl : k = kids.length := by omega
          obtain ⟨Ak, ck, hkv⟩ := own_sl HOW.out
          subst hkv
          have HBW : Hid (Below w.heap.size w wr) := Lib.hid (HBr.out.trans (HKS.out.below.mono hGw))
          have HO2 : Hid (wr.ownsRow w.heap.size 33 5 u5 i (flatN ds)) := Lib.hid (own_keepA HO.out HKS.out.below)
          have HM1 : Hid ((wr.alloc (.cells #[.int .i64 (kind : Int), .slice Ak kids.length ck, .int .i64 lo, .int .i64 hh, .slice A2 set.length c2] 33)).ownsRow w.heap.size 33 5 u5 i (flatN ds)) := Lib.hid (HO2.out.alloc _)
          have HC1 := Lib.hid (node_cells wr ⟨⟨kind, kids.map (· + d), lo, hh, set⟩, (Ak, kids.length, ck), (A2, set.length, c2)⟩)
          have hwl : w.heap.size ≤ wr.heap.size := HBW.out.size
          go_wp2_with (at_builtin; refine wpList_append_own_at _ rfl (.tmp 45) (.tmp 47) 23 rfl w.heap.size 33 i0' _ 5 72 Try.underlying23 hinf hz0 hz1 hz2 rfl (by decide) _ _ _ rfl HM1.out ⟨wr.heap.size, 0, none⟩ 1 1 (ncells ⟨⟨kind, kids.map (· + d), lo, hh, set⟩, (Ak, kids.length, ck), (A2, set.length, c2)⟩) rfl rfl HC1.out (ncells_ones _) ?c3 ?c4 ?c5 ?_)
          case c3 => unfold maxLen; omega
          case c4 => omega
          case c5 => first | omega | (simp; omega)
          intro v6 w6 hown6 hg6 _ hat6
          have hwr : (wr.alloc (.cells #[.int .i64 (kind : Int), .slice Ak kids.length ck, .int .i64 lo, .int .i64 hh, .slice A2 set.length c2] 33)).heap.size = wr.heap.size + 1 := by simp
          have hb6 : Below w.heap.size w w6 := (HBW.out.alloc hwl _).grown hg6 (by omega) (fun j hj => (HM1.out.lt j hj).1)
          have hgk := HOW.out
          have hkeep6 : ∀ b, b < wr.heap.size → u5.ownBlock ≠ some b → w6.heap[b]? = wr.heap[b]? := fun b hb hne => (hg6.block b (by omega) (fun e => hne e.symm)).trans (heap_alloc_old wr _ hb)
          have hu5 : ∀ b, u5.ownBlock = some b → b < Wi.heap.size := fun b hb => (HO.out.lt b hb).2
          have hv6 : ∀ b, v6.ownBlock = some b → u5.ownBlock = some b ∨ wr.heap.size < b := fun b hb => by
            rcases hat6 with e | e
            · left; rw [← e]; exact hb
            · right; rw [e] at hb; injection hb with hb; first | omega | (rw [hwr] at hb; omega)
          have hMR : MRel w ms d v6 (.int .i64 ((i : Int) + 1)) w6 := by
            refine ⟨i + 1, ds ++ [⟨⟨kind, kids.map (· + d), lo, hh, set⟩, (Ak, kids.length, ck), (A2, set.length, c2)⟩], hlt, by go_num, Lib.hid ?_, Lib.hid ?_, Lib.hid fun m hm => ?_, Lib.hid hb6⟩
            · rw [HTK.out, List.map_append, ← HD.out]
              simp [nds, mvNd]
            · rw [flatN_append, flatN_one]
              exact hown6
            · rcases List.mem_append.1 hm with hm | hm
              · obtain ⟨⟨B, cB, f1, f2, f3, f4, f5⟩, hs, hsm⟩ := HV.out m hm
                refine ⟨⟨B, cB, f1, fun hn => ?_, f3, f4, fun b off e hn => ⟨fun hv => ?_, (f5 b off e hn).2⟩⟩, hs, hsm⟩
                · obtain ⟨b, off, e, hb, hc⟩ := f2 hn
                  subst e
                  have hn' : 0 < m.nd.kids.length := by simpa using hn
                  have hb9 : b < wr.heap.size := Nat.lt_of_lt_of_le hb HKS.out.below.size
                  refine ⟨b, off, rfl, by have := hg6.size; omega, fun j u hu => ?_⟩
                  refine (World.cell?_of_block (a := ⟨b, off + j, none⟩) ((hkeep6 b hb9 (f5 b off rfl hn').1).trans (HKS.out.below.block b hb))).trans (hc j u hu)
                · subst e
                  obtain ⟨b', off', e', hb', _⟩ := f2 (by simpa using hn)
                  injection e' with e'
                  injection e' with e1 _ _
                  subst e1
                  rcases hv6 _ hv with h9 | h9
                  · exact (f5 _ _ rfl hn).1 h9
                  · have := HKS.out.below.size; omega
              · obtain rfl : m = ⟨⟨kind, kids.map (· + d), lo, hh, set⟩, (Ak, kids.length, ck), (A2, set.length, c2)⟩ := by simpa using hm
                have hat := RxParse.own_at hgk (by simp)
                have hlk : kids.length ≤ ck := hat.2.1
                refine ⟨⟨Ak, ck, by simp, fun hn => ?_, by simpa using hlk, hat.2.2, fun b off e hn => ⟨fun hv => ?_, ?_⟩⟩, HSRC.out, HS.out⟩
                · have hn' : 0 < kids.length := by simpa using hn
                  obtain ⟨b, off, e, hb, hc⟩ := hat.1 (by simpa using hn')
                  subst e
                  have hbG : Wi.heap.size + 1 ≤ b := (hgk.lt b rfl).1
                  refine ⟨b, off, rfl, by have := hg6.size; omega, fun j u hu => ?_⟩
                  refine (World.cell?_of_block (a := ⟨b, off + j, none⟩) (hkeep6 b hb (fun e9 => by have := hu5 b e9; omega))).trans (hc j u ?_)
                  simpa using hu
                · subst e
                  have h8 := hgk.lt b rfl
                  rcases hv6 _ hv with h9 | h9
                  · have := hu5 b h9
                    omega
                  · omega
                · subst e
                  have h8 := hgk.lt b rfl
                  omega
          clear hown6 hg6 hat6 hb6 hkeep6 hu5 hv6 hgk hwr HM1 HC1 HO2 HBW HOW HBX HKS
          have HMR := Lib.hid hMR
          clear hMR
          go_wp2
          obtain ⟨i', ds', hi', hie, H1, H2, H3, H4⟩ := HMR.out
          exact ⟨⟨i', ds', hi', hie, H1, H2, H3, H4⟩, by simp [intOf]; omega⟩
        case pos =>
          have d2 : decide ((k : Int) < (kids.length : Int)) = true := decide_eq_true (by omega)
          have k0 : (0 : Int) ≤ (k : Int) := by omega
          have k1 : (k : Int) < (kids.length : Int) := by omega
          obtain ⟨h1, p1, hA1, hh1, hc1⟩ := R1.out (by simp; omega)
          subst hA1
          have q1 := cell_up (HBr.out.trans (HKS.out.below.mono hGw)) (p := ⟨h1, p1 + k, none⟩) hh1 (hc1 k (.int .i64 (kids[k] : Int)) (by simp [hkl, IV]))
          have hy := HKY.out _ (List.getElem_mem hkl)
          have HTK2 : Hid (kids.take (k + 1) = kids.take k ++ [kids[k]]) := Lib.hid (List.take_succ_eq_append_getElem hkl)
          clear hc1
          generalize kids[k] = y at *
          have ha1 : IntKind.i64.wrap ((y : Int) + (d : Int)) = (y : Int) + (d : Int) := IntWalk.i64_in _ (by omega)
          go_wp2
          have hGk := HKS.out.lt
          have up0 : ∀ X : World, (∀ j, j ≤ Wi.heap.size → X.heap[j]? = wr.heap[j]?) → (X.cell? ⟨Wi.heap.size, 1, none⟩ = some kv ∧ X.cell? ⟨g1, o1 + i * 5 + 1, none⟩ = some (.slice (some ⟨h1, p1, none⟩) kids.length c1) ∧ X.cell? ⟨h1, p1 + k, none⟩ = some (.int .i64 (y : Int))) := fun X hX =>
            ⟨(World.cell?_of_block (a := ⟨Wi.heap.size, 1, none⟩) (hX _ (Nat.le_refl _))).trans b1, (World.cell?_of_block (a := ⟨g1, o1 + i * 5 + 1, none⟩) (hX _ (by show g1 ≤ _; omega))).trans z1, (World.cell?_of_block (a := ⟨h1, p1 + k, none⟩) (hX _ (by show h1 ≤ _; omega))).trans q1⟩
          refine wp_region_D (fun j => j == 15) (fun X : World => X.cell? ⟨Wi.heap.size, 1, none⟩ = some kv ∧ X.cell? ⟨g1, o1 + i * 5 + 1, none⟩ = some (.slice (some ⟨h1, p1, none⟩) kids.length c1) ∧ X.cell? ⟨h1, p1 + k, none⟩ = some (.int .i64 (y : Int))) (by kernel_rfl) ?_
          obtain ⟨X0, hX0⟩ : ∃ X, wr.drew = X := ⟨_, rfl⟩
          have HX0 : Hid (KSt Wi X0 Wi.heap.size ⟨kind, kids, lo, hh, set⟩ d (.slice A2 set.length c2) k) := Lib.hid (by rw [← hX0]; exact ⟨HKS.out.below.trans ((below_drewN (Below.refl _ wr) 1).mono HKS.out.below.size), HKS.out.lt, HKS.out.kid⟩)
          have HOX : Hid (X0.ownsRow (Wi.heap.size + 1) 3 1 kv k (((kids.take k).map (· + d)).map IV)) := Lib.hid (by rw [← hX0]; exact HOW.out.drew)
          have HBX0 : Hid (X0.heap[Wi.heap.size]? = some (.cells #[.int .i64 (kind : Int), kv, .int .i64 lo, .int .i64 hh, .slice A2 set.length c2] 33 (0, 0))) := Lib.hid (by rw [← hX0]; exact HBX.out)
          have up1 : ∀ X : World, (∀ j, j ≤ Wi.heap.size → X.heap[j]? = X0.heap[j]?) → _ := fun X hX => up0 X (fun j hj => (hX j hj).trans (by rw [← hX0]; rfl))
          rw [hX0]
          clear hX0 up0
          have hG0 := HX0.out.lt
          obtain ⟨X1, hX1⟩ : ∃ X, X0.alloc (.cells #[.int .i64 ((y : Int) + (d : Int))] 3) = X := ⟨_, rfl⟩
          have HO1 : Hid (X1.ownsRow (Wi.heap.size + 1) 3 1 kv k (((kids.take k).map (· + d)).map IV)) := Lib.hid (by rw [← hX1]; exact HOX.out.alloc _)
          have HN1 : Hid (∀ j u, ([y + d].map IV)[j]? = some u → X1.cell? ((⟨X0.heap.size, 0, none⟩ : Addr).add j) = some u) := Lib.hid (by rw [← hX1]; exact RxPost.cellNewI X0 (.int .i64 ((y : Int) + (d : Int))) 3)
          have HB1 : Hid (Below X0.heap.size X0 X1) := Lib.hid (by rw [← hX1]; exact (Below.refl _ _).alloc (Nat.le_refl _) _)
          obtain ⟨v1, X2, hr1, ho1, hg1, _, hat1⟩ := run_append_own_at (P := Try.prog) X1 (Wi.heap.size + 1) 30 30 3 i1' (.int .i64 0) 1 8 Try.underlying30 jinf jz0 jz1 jz2 rfl (by decide) kv k _ HO1.out ⟨X0.heap.size, 0, none⟩ 1 1 ([y + d].map IV) rfl HN1.out (RxPost.iv_ones _) (by unfold maxLen; omega) (by omega) (by have := HB1.out.size; omega)
          obtain ⟨Av, cv, hv1⟩ := own_sl ho1
          subst hv1
          have HG1 := Lib.hid hg1
          have HOV := Lib.hid ho1
          have hkeep : ∀ j, j ≤ Wi.heap.size → X2.heap[j]? = X0.heap[j]? := fun j hj => (HG1.out.block j (by have := HB1.out.size; omega) (fun e => by have := (HO1.out.lt j e.symm).1; omega)).trans (HB1.out.block j (by omega))
          have HKEEP := Lib.hid hkeep
          have HRUN := Lib.hid hr1
          clear hr1 hg1 ho1 hkeep
          refine wpAnyD_take (i := 0) (v := ?_) rfl (by kernel_rfl) (fun _ _ _ h => h) (Or.inl ⟨by kernel_rfl, ?_⟩) (up1 _ (fun _ _ => rfl)) ?_
          rotate_left
          · intro w9 t1
            obtain ⟨t1, t2, t3⟩ := t1
            first | (go_simp; with_reducible rfl) | go_simp
          try simp only [Act.put, List.setIfInBounds_toArray]
          refine wpAnyD_take (i := 1) (v := ?_) rfl (by kernel_rfl) (fun _ _ _ h => h) (Or.inl ⟨by kernel_rfl, ?_⟩) (up1 _ (fun _ _ => rfl)) ?_
          rotate_left
          · intro w9 t1
            obtain ⟨t1, t2, t3⟩ := t1
            first | (go_simp; with_reducible rfl) | go_simp
          try simp only [Act.put]
          refine wpAnyD_take (i := 2) (v := ?_) rfl (by kernel_rfl) (fun _ _ _ h => h) (Or.inl ⟨by kernel_rfl, ?_⟩) (up1 _ (fun _ _ => rfl)) ?_
          rotate_left
          · intro w9 t1
            obtain ⟨t1, t2, t3⟩ := t1
            first | (go_simp; with_reducible rfl) | go_simp
          try simp only [Act.put]
          refine wpAnyD_take (i := 3) (v := ?_) rfl (by kernel_rfl) (fun _ _ _ h => h) (Or.inl ⟨by kernel_rfl, ?_⟩) (up1 _ (fun _ _ => rfl)) ?_
          rotate_left
          · intro w9 t1
            obtain ⟨t1, t2, t3⟩ := t1
            first | (go_simp; with_reducible rfl) | go_simp
          try simp only [Act.put]
          refine wpAnyD_take (i := 4) (v := ?_) rfl (by kernel_rfl) (fun _ _ _ h => h) (Or.inl ⟨by kernel_rfl, ?_⟩) (up1 _ (fun _ _ => rfl)) ?_
          rotate_left
          · intro w9 t1
            obtain ⟨t1, t2, t3⟩ := t1
            first | (go_simp; with_reducible rfl) | go_simp
          try simp only [Act.put]
          refine wpAnyD_take (i := 5) (v := ?_) rfl (by kernel_rfl) (fun _ _ _ h => h) (Or.inl ⟨by kernel_rfl, ?_⟩) (up1 _ (fun _ _ => rfl)) ?_
          rotate_left
          · intro w9 t1
            obtain ⟨t1, t2, t3⟩ := t1
            first | (go_simp; with_reducible rfl) | go_simp
          try simp only [Act.put]
          refine wpAnyD_take (i := 6) (v := ?_) rfl (by kernel_rfl) (fun _ _ _ h => h) (Or.inl ⟨by kernel_rfl, ?_⟩) (up1 _ (fun _ _ => rfl)) ?_
          rotate_left
          · intro w9 t1
            obtain ⟨t1, t2, t3⟩ := t1
            first | (go_simp; with_reducible rfl) | go_simp
          try simp only [Act.put]
          refine wpAnyD_take (i := 7) (v := ?_) rfl (by kernel_rfl) (fun _ _ _ h => h) (Or.inl ⟨by kernel_rfl, ?_⟩) (up1 _ (fun _ _ => rfl)) ?_
          rotate_left
          · intro w9 t1
            obtain ⟨t1, t2, t3⟩ := t1
            first | (go_simp; with_reducible rfl) | go_simp
          try simp only [Act.put]
          refine wpAnyD_take (i := 8) (v := ?_) rfl (by kernel_rfl) (fun _ _ _ h => h) (Or.inl ⟨by kernel_rfl, ?_⟩) (up1 _ (fun _ _ => rfl)) ?_
          rotate_left
          · intro w9 t1
            obtain ⟨t1, t2, t3⟩ := t1
            first | (go_simp; with_reducible rfl) | go_simp
          try simp only [Act.put]
          refine wpAnyD_take (i := 9) (v := ?_) rfl (by kernel_rfl) (fun _ _ _ h => h) (Or.inl ⟨by kernel_rfl, ?_⟩) (up1 _ (fun _ _ => rfl)) ?_
          rotate_left
          · intro w9 t1
            obtain ⟨t1, t2, t3⟩ := t1
            first | (go_simp; with_reducible rfl) | go_simp
          try simp only [Act.put]
          refine wpAnyD_take (i := 10) (v := ?_) rfl (by kernel_rfl) (fun _ _ _ h => h) (Or.inl ⟨by kernel_rfl, ?_⟩) (up1 _ (fun _ _ => rfl)) ?_
          rotate_left
          · intro w9 t1
            obtain ⟨t1, t2, t3⟩ := t1
            first | (go_simp; with_reducible rfl) | go_simp
          try simp only [Act.put]
          refine wpAnyD_take (i := 11) (v := ?_) rfl (by kernel_rfl) (fun _ _ _ h => h) (Or.inl ⟨by kernel_rfl, ?_⟩) (up1 _ (fun _ _ => rfl)) ?_
          rotate_left
          · intro w9 t1
            obtain ⟨t1, t2, t3⟩ := t1
            first | (go_simp; with_reducible rfl) | go_simp
          try simp only [Act.put]
          refine wpAnyD_one (j := 12) (by kernel_rfl) rfl rfl rfl (fun K hK => ?_)
          go_simp
          try rw [hX1]
          refine hK.out _ _ (up1 _ (fun j hj => HB1.out.block j (by omega))) ?_
          clear hK K hX1
          try simp only [Act.put, List.setIfInBounds_toArray, List.set_cons_zero, List.set_cons_succ]
          refine wpAnyD_one (j := 13) (by kernel_rfl) rfl rfl rfl (fun K hK => ?_)
          refine RxWant.wp_append_at HRUN (.tmp 31) (.tmp 42) rfl rfl rfl rfl ?_ ?_
          · with_reducible rfl
          refine hK.out _ _ (up1 _ HKEEP.out) ?_
          clear hK K HRUN
          try simp only [Act.put, List.setIfInBounds_toArray]
          refine wpAnyD_one (j := 14) (by kernel_rfl) rfl rfl rfl (fun K hK => ?_)
          go_simp
          refine hK.out _ _ (up1 _ HKEEP.out) ?_
          clear hK K
          try simp only [Act.put, List.setIfInBounds_toArray, List.set_cons_zero, List.set_cons_succ]
          have hbx2 : X2.heap[Wi.heap.size]? = some (.cells #[.int .i64 (kind : Int), kv, .int .i64 lo, .int .i64 hh, .slice A2 set.length c2] 33 (0, 0)) := (HKEEP.out _ (Nat.le_refl _)).trans HBX0.out
          have HFIN : Hid (KSt Wi (X2.setCell ⟨Wi.heap.size, 1, none⟩ (.slice Av (k + 1) cv)) Wi.heap.size ⟨kind, kids, lo, hh, set⟩ d (.slice A2 set.length c2) (k + 1)) := Lib.hid ⟨
            (HX0.out.below.trans ⟨(HG1.out.os.trans HB1.out.os), (HG1.out.tape.trans HB1.out.tape), (HG1.out.output.trans HB1.out.output), Nat.le_trans HB1.out.size HG1.out.size, fun j hj => HKEEP.out j (by omega)⟩).setCell (show Wi.heap.size ≤ (⟨Wi.heap.size, 1, none⟩ : Addr).block from Nat.le_refl _) _,
            by rw [World.size_setCell]; have := HG1.out.size; have := HB1.out.size; omega,
            .slice Av (k + 1) cv, heap_setCell_same _ _ 1 _ _ (.slice Av (k + 1) cv) hbx2, by
              have h9 := HOV.out.kept (w' := X2.setCell ⟨Wi.heap.size, 1, none⟩ (.slice Av (k + 1) cv)) (row := some Wi.heap.size) ⟨rfl, rfl, rfl, by simp, fun j _ hne => heap_setCell_other _ _ _ _ (fun e => hne (by rw [e]))⟩ (by
                cases hb : (Value.slice Av (k + 1) cv).ownBlock with
                | none => exact .inl rfl
                | some b => exact .inr fun e => by have := (HOV.out.lt b hb).1; injection e with e; omega)
              rw [HTK2.out, List.map_append, List.map_append]
              exact h9⟩
          have d3 : X2.cell? ⟨Wi.heap.size, 1, none⟩ = some kv := RxMem.cell_of_row hbx2 rfl
          have d4 : X2.frozen? ⟨Wi.heap.size, 1, none⟩ = false := frozen_of_row _ _ _ _ _ hbx2
          refine wpAnyD_dep (j := 15) (by kernel_rfl) rfl rfl rfl (fun K hK => ?_)
          go_simp
          refine hK.out _ _ ⟨by kernel_rfl, ?_⟩
          clear hK K d3 d4 hbx2
          go_wp2
          exact ⟨⟨k + 1, hkl, by go_num, HFIN⟩, by simp [intOf]; omega⟩
/-- Both trees, the second one moved, in one row. -/
theorem tr_both {W w7 w8 X : World} {A B A' A2 : Option Addr} {c cb c' c2 n base : Nat} {ms ns ds : List NM} {v1 : Value} (ha : Tr W A c ms) (hn : Tr W B cb ns) (hX : Below W.heap.size W X) (hd : Tr w8 A' c' ds)
    (hsrc : ∀ m ∈ ds, (∃ m0 ∈ ns, m.ss = m0.ss ∧ m.nd.set = m0.nd.set) ∧ ∀ b off, m.ks.1 = some ⟨b, off, none⟩ → 0 < m.nd.kids.length → w7.heap.size ≤ b) (hv : ∀ b, v1.ownBlock = some b → b < w7.heap.size) (hg : w8.grownBy X v1.ownBlock)
    (hown : X.ownsRow base 33 5 (.slice A2 n c2) n (flatN (ms ++ ds))) (hn' : n = (ms ++ ds).length) : Tr X A2 c2 (ms ++ ds) := by
  subst hn'
  have hat := RxParse.own_at hown (flatN_len _)
  refine ⟨hat.1, hat.2.1, hat.2.2, fun m hm => ?_, fun m hm => ?_, fun m hm => ?_⟩
  · rcases List.mem_append.1 hm with hm | hm
    · exact (ha.up hX).each m hm
    · obtain ⟨Q, e, k1, k2, k3, k4⟩ := hd.each m hm
      refine ⟨Q, e, k1, fun hl => ?_, k3, k4⟩
      obtain ⟨b, off, e1, hb, hc⟩ := k2 hl
      have h7 := (hsrc m hm).2 b off (by rw [k1]; exact e1) (by simpa using hl)
      exact ⟨b, off, e1, by have := hg.size; omega, fun j u hj => (World.cell?_of_block (a := ⟨b, off + j, none⟩) (hg.block b hb (fun e9 => by have := hv b e9.symm; omega))).trans (hc j u hj)⟩
  · rcases List.mem_append.1 hm with hm | hm
    · exact (ha.up hX).sets m hm
    · obtain ⟨m0, hm0, e1, e2⟩ := (hsrc m hm).1
      rw [e1, e2]
      exact (hn.up hX).sets m0 hm0
  · rcases List.mem_append.1 hm with hm | hm
    · exact ha.small m hm
    · exact hd.small m hm
end Go.Proofs.Ytdmbgjpidlllcaa.RxMvd

namespace Go.Proofs.Ytdmbgjpidlllcaa.RxNewC
open Go Go.RowKit Words AppN Km Mo_ RxSpec RxTree RxEq RxMem RxPeek RxHas RxNode RxClean RxPost RxAll RxSize RxSmall RxText RxParse RxSame RxAwake RxLaw RxJoinP RxWant RxMvd

/-- A slice of new memory, beside the row in block g, that can be written. -/
def NewS (B : Nat) (w : World) (A : Option Addr) (S : Sl) (n : Nat) : Prop := ∀ b off, S.1 = some ⟨b, off, none⟩ → 0 < n → B ≤ b ∧ (∀ a, A = some a → a.block ≠ b) ∧ ∀ j, j < n → w.frozen? ⟨b, off + j, none⟩ = false
structure NewTr (B : Nat) (w : World) (A : Option Addr) (ms : List NM) : Prop where
  row : ∀ b off, A = some ⟨b, off, none⟩ → 0 < ms.length → B ≤ b
  kids : ∀ m ∈ ms, NewS B w A m.ks m.nd.kids.length
  sets : ∀ m ∈ ms, NewS B w A m.ss m.nd.set.length
def RexpN : Prop := ∀ (s : ByteArray) (w : World), s.size ≤ 9223372036854775807 → Calls Try.prog 9 #[.string s] w fun e w' =>
  ∃ (A : Option Addr) (c : Nat) (ms : List NM) (x : Nat), e = .returned (.tuple #[.slice A ms.length c, .int .i64 (x : Int)]) ∧ parseT s.data.toList = (x, nds ms) ∧ Tr w' A c ms ∧ Below w.heap.size w w' ∧ NewTr w.heap.size w' A ms
theorem rexpC_of (P : RexpN) : RexpC := fun s w hs => (P s w hs).mono fun _ _ ⟨A, c, ms, x, h1, h2, h3, h4, _⟩ => ⟨A, c, ms, x, h1, h2, h3, h4⟩
/-- A store elsewhere. -/
theorem rd_other {X : World} {A : Option Addr} {vs : List Value} {p : Addr} {u : Value} (h : Rd X X.heap.size A vs) (hn : ∀ b off, A = some ⟨b, off, none⟩ → 0 < vs.length → b ≠ p.block) : Rd (X.setCell p u) (X.setCell p u).heap.size A vs := fun hl => by
  obtain ⟨b, off, e, hb, hc⟩ := h hl
  have h9 := hn b off e hl
  refine ⟨b, off, e, by rw [World.size_setCell]; exact hb, fun j v hj => ?_⟩
  rw [World.cell?_setCell_other X p ⟨b, off + j, none⟩ u (fun e2 => h9 (by have := congrArg Addr.block e2; first | exact this | exact this.symm))]
  exact hc j v hj
theorem tr_other {X : World} {A : Option Addr} {c : Nat} {ms : List NM} {p : Addr} {u : Value} {B : Nat} (h : Tr X A c ms) (hN : NewTr B X A ms) (hp : p.block < B) : Tr (X.setCell p u) A c ms := by
  refine ⟨rd_other h.rd (fun b off e hl => ?_), h.le, h.cap, fun m hm => ?_, fun m hm => ?_, h.small⟩
  · have := hN.row b off e (by rw [flatN_len] at hl; omega)
    omega
  · obtain ⟨Q, q, e, hr, h1, h2⟩ := h.each m hm
    refine ⟨Q, q, e, rd_other hr (fun b off e2 hl => ?_), h1, h2⟩
    have := (hN.kids m hm b off (by rw [e]; exact e2) (by simpa using hl)).1
    omega
  · obtain ⟨Q, q, e, hr, h1, h2⟩ := h.sets m hm
    refine ⟨Q, q, e, rd_other hr (fun b off e2 hl => ?_), h1, h2⟩
    have := (hN.sets m hm b off (by rw [e]; exact e2) (by simpa using hl)).1
    omega
theorem nds_last {ms : List NM} {r : Nat} (h : ms.length - 1 = r) (hr : r < ms.length) (hk : (ms[r]).nd.kind ≠ 4) : ∀ hx : (nds ms).length - 1 < (nds ms).length, ((nds ms)[(nds ms).length - 1]).kind ≠ 4 := by
  subst h
  intro hx
  simpa [nds] using hk
end Go.Proofs.Ytdmbgjpidlllcaa.RxNewC

