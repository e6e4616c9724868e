/- A record of the program's head in its block; byOrder. Condition: the two records lie in memory. · The program's head in memory ('HM'): its box, its records in order as a row of pointers, its map from terms to rows of pointers; what keeps it, and how a row of the map grows. Conditions: none but that it lies in memory. · The layings of the library's contracts of generic functions at this program: the numbers of its functions and types. No conditions. · The library's search among the head's records, by byOrder. Conditions: the records lie in memory, in order, apart from the row that is searched; fewer than 2^62. · The layings of the library's contracts of generic functions at this program: the numbers of its functions and types. No conditions. · The library's sort of the head's records, by byOrder. Conditions: the records lie in memory, apart from the row that is sorted; fewer than 2^62. -/
import Derived.Test.YtkgmcabamhpjhaaGreatHpGr
import Derived.Test.YtkgmcabamhpjhaaGreatHdMems
import Derived.Maps.Own
import Derived.Maps.OwnSet
import Derived.Maps.OwnOps
import Derived.Maps.Keyed
import Derived.Shelf.SlCmpFuncs.BinarySearchFunc
import Derived.Shelf.SlCmpFuncs.None
import Derived.Test.YtkgmcabamhpjhaaGreatProg
import Derived.Lib.OwnBridge
import Derived.Shelf.SlSortCmp.NoneTotal
namespace Go.Proofs.YtkgmcabamhpjhaaGreat.HpBox
open Go Go.RowKit Words Less LbSpec LbMem LbRef LbCmp UtOwn LpOrd LpBoth RcSpec RcAll RcMem RpCmp HdSpec HpSpec HpGr

theorem gr_trans {w W X : World} (h : Gr w W) (h' : Gr W X) : Gr w X := by
  obtain ⟨q, os, rfl⟩ := h
  obtain ⟨q', os', rfl⟩ := h'
  refine ⟨q + q', os ++ os', ?_⟩
  rw [← Sort.grow_grow]
  congr 1
  simp [Sort.grow, World.drewN, Nat.add_assoc]
def ptr (g : Nat) : Value := .pointer (some ⟨g, 0, none⟩)
/-- The record lies in its block. -/
def Box (w : World) (x : Pin) : Prop := w.heap[x.1]? = some (.cells #[.int .i64 (rcp x).time, .int .u64 ((rcp x).seq : Int), slV x.2.2, S8 (rcp x).line] 47 (0, 0))
theorem cell_of_heap {w : World} {g j : Nat} {cs : Array Value} {t : TypeId} {u : Value} (h : w.heap[g]? = some (.cells cs t (0, 0))) (hj : cs[j]? = some u) : w.cell? ⟨g, j, none⟩ = some u := by
  unfold World.cell?
  rw [h]
  simpa using hj
theorem frozen_of_heap {w : World} {g j : Nat} {cs : Array Value} {t : TypeId} (h : w.heap[g]? = some (.cells cs t (0, 0))) : w.frozen? ⟨g, j, none⟩ = false := by
  unfold World.frozen?
  rw [h]
  simp
theorem Box.lt {w : World} {x : Pin} (h : Box w x) : x.1 < w.heap.size := (Array.getElem?_eq_some_iff.1 h).1
theorem Box.cells {w : World} {x : Pin} (h : Box w x) : w.cell? ⟨x.1, 0, none⟩ = some (.int .i64 (rcp x).time) ∧ w.cell? ⟨x.1, 1, none⟩ = some (.int .u64 ((rcp x).seq : Int)) ∧ w.cell? ⟨x.1, 2, none⟩ = some (slV x.2.2) ∧ w.cell? ⟨x.1, 3, none⟩ = some (S8 (rcp x).line) :=
  ⟨cell_of_heap h rfl, cell_of_heap h rfl, cell_of_heap h rfl, cell_of_heap h rfl⟩

set_option maxHeartbeats 3200000 in
theorem byOrder_any (w : World) (x y : Pin) (hx : Box w x) (hy : Box w y) : Calls Tryz.prog 32 #[ptr x.1, ptr y.1] w fun e w' => e = .returned (.int .i64 (cfP x y)) ∧ Gr w w' := by
  obtain ⟨a0, a1, a2, a3⟩ := hx.cells
  obtain ⟨b0, b1, b2, b3⟩ := hy.cells
  have HC := fun w => Lib.hid (compare_gr w x.2 y.2)
  clear hx hy
  unfold aggR at HC
  unfold cfP
  obtain ⟨g, ⟨t, s, l, n⟩, A, k, c⟩ := x
  obtain ⟨g', ⟨t1, s1, l1, n1⟩, A1, k1, c1⟩ := y
  unfold rcp slV S8 at *
  unfold ptr
  simp only at a0 a1 a2 a3 b0 b1 b2 b3 HC ⊢
  generalize cmpR ⟨t, s, l, n⟩ ⟨t1, s1, l1, n1⟩ = r at *
  go_enter Tryz.func32, Tryz.ntmps32
  go_wp2
  go_region_law (first
    | (go_simp; go_at_call 27; ((with_reducible refine (HC _).out.mono ?_); rintro e w1 ⟨rfl, hg⟩)))
  all_goals
    go_wp2
    go_ret
    first | exact ⟨rfl, hg⟩ | exact ⟨rfl, gr_trans (Gr.refl _).drew hg⟩ | exact ⟨rfl, gr_trans (Gr.refl _).drew.drew hg⟩
end Go.Proofs.YtkgmcabamhpjhaaGreat.HpBox

namespace Go.Proofs.YtkgmcabamhpjhaaGreat.HpMem
open Go Go.RowKit Go.Maps Words AppN Less LbSpec LbMem LbRef RcAll RcMem HdMem HdSpec HdKm HpSpec HpGr HpBox UtOwn Km
open RcSpec hiding none

/-! ### Slices as what a map holds -/
def nothing : DataW Unit := .lit (.int .i64 (-1))
def datum (g n c : Nat) : DataW Unit := .agg [.lit (.int .i64 (g : Int)), .lit (.int .i64 (n : Int)), .lit (.int .i64 (c : Int))]
def slcR : Value → Option (DataW Unit × List MemPlace)
  | .slice none n c => if n = 0 ∧ c = 0 then some (nothing, []) else none
  | .slice (some a) n c => if a = ⟨a.block, 0, none⟩ then some (datum a.block n c, []) else none
  | _ => none
def code (v : Value) : DataW Unit := ((slcR v).map Prod.fst).getD nothing
/-- Nil, or a slice from a row's beginning on. -/
def RowV (v : Value) : Prop := v = .slice none 0 0 ∨ ∃ g n c, v = .slice (some ⟨g, 0, none⟩) n c
theorem code_nil : code (.slice none 0 0) = nothing := rfl
theorem slcR_nil : slcR (.slice none 0 0) = some (nothing, []) := rfl
theorem slcR_code {v : Value} (h : RowV v) : slcR v = some (code v, []) := by
  rcases h with rfl | ⟨g, n, c, rfl⟩
  · rfl
  · simp [slcR, code]
theorem slcR_inv {v v' : Value} {ps : List MemPlace} (h : RowV v) (hv : slcR v' = some (code v, ps)) : v' = v := by
  have key : ∀ d, slcR v' = some (d, ps) → (d = nothing → v' = .slice none 0 0) ∧ (∀ g n c, d = datum g n c → v' = .slice (some ⟨g, 0, none⟩) n c) := by
    intro d hd
    unfold slcR at hd
    split at hd
    · split at hd
      · rename_i h2
        obtain ⟨rfl, rfl⟩ := h2
        injection hd with hd
        injection hd with hd
        subst hd
        exact ⟨fun _ => rfl, fun g n c e => by simp [nothing, datum] at e⟩
      · cases hd
    · split at hd
      · rename_i a n c h2
        injection hd with hd
        injection hd with hd
        subst hd
        refine ⟨fun e => by simp [nothing, datum] at e, fun g' n' c' e => ?_⟩
        simp [datum] at e
        obtain ⟨e1, e2, e3⟩ := e
        rw [h2]
        have e1 : a.block = g' := by omega
        have e2 : n = n' := by omega
        have e3 : c = c' := by omega
        rw [e1, e2, e3]
      · cases hd
    · cases hd
  rcases h with rfl | ⟨g, n, c, rfl⟩
  · exact (key _ hv).1 rfl
  · exact (key _ hv).2 g n c (by simp [code, slcR])
theorem own_rowV {w : World} {base n s : Nat} {e : TypeId} {v : Value} {xs : List Value} (h : w.ownsRow base e s v n xs) : RowV v := by
  rcases h.2 with ⟨rfl, _⟩ | ⟨g, cap, cur, rfl, _⟩
  · exact .inl rfl
  · exact .inr ⟨g, n, cap, rfl⟩
theorem own_same {w w' : World} {base n s : Nat} {e : TypeId} {v : Value} {xs : List Value} (h : w.ownsRow base e s v n xs) (hq : ∀ q, v.ownBlock = some q → w'.heap[q]? = w.heap[q]?) : w'.ownsRow base e s v n xs := by
  obtain ⟨h1, h2⟩ := h
  refine ⟨h1, ?_⟩
  rcases h2 with h2 | ⟨g, cap, cur, hv, h3, h4, h5⟩
  · exact .inl h2
  · exact .inr ⟨g, cap, cur, hv, h3, (hq g (by rw [hv]; rfl)).trans h4, h5⟩
theorem keyed : Keyed Tryz.prog 9 := string_keyed Tryz.underlying9
theorem key (s : List UInt8) (h : s.length ≤ maxLen) : keyOf Tryz.prog 9 (S8 s) = some (.string s) := by
  unfold keyOf S8
  rw [Tryz.underlying9]
  have : (ByteArray.mk s.toArray).size ≤ maxLen := by show s.toArray.size ≤ _; simpa using h
  simp [mapKey, this]
theorem zeroS (w : World) : (zeroValue 57).run Tryz.prog w = .ok (.slice none 0 0) w := by kernel_rfl
theorem map_same {k : TypeId} {R : Value → Option (DataW Unit × List MemPlace)} {w w' : World} {M n : Nat} {D : DataW Unit} (h : w.ownsMap Tryz.prog k R M n D) (hb : w'.heap[M]? = w.heap[M]?) : w'.ownsMap Tryz.prog k R M n D := by
  obtain ⟨es, clock, h1, h2⟩ := h
  exact ⟨es, clock, hb.trans h1, h2⟩
theorem map_lt {k : TypeId} {R : Value → Option (DataW Unit × List MemPlace)} {w : World} {M n : Nat} {D : DataW Unit} (h : w.ownsMap Tryz.prog k R M n D) : M < w.heap.size := by
  obtain ⟨es, clock, h1, _⟩ := h
  exact (Array.getElem?_eq_some_iff.1 h1).1

/-! ### The head -/
def ptrs (l : List Pin) : List Value := l.map fun x => ptr x.1
theorem ptrs_len (l : List Pin) : (ptrs l).length = l.length := by simp [ptrs]
/-- A record in its block, its labels in a row: both of the number 4. -/
structure PinAt (w : World) (J : Nat → Nat) (x : Pin) : Prop where
  box : Box w x
  kind : J x.1 = 4
  fits : Fits (rcp x)
  labs : w.ownsRow 0 70 2 (slV x.2.2) (rcp x).labels.length (flat (rcp x).labels)
  lkind : ∀ q, (slV x.2.2).ownBlock = some q → J q = 4
/-- The map: nil, or in a block of the number 2; R: what it holds by terms. -/
def MapAt (w : World) (J : Nat → Nat) (mv : Option Nat) (R : List UInt8 → Value) (n : Nat) : Prop :=
  (mv = none ∧ ∀ t, R t = .slice none 0 0) ∨ ∃ M D, mv = some M ∧ J M = 2 ∧ w.ownsMap Tryz.prog 9 slcR M n D ∧ ∀ t, D.atKey (.string t) nothing = code (R t)
structure HM (w : World) (J : Nat → Nat) (p : Nat) (last : Option Nat) (V : List UInt8 → List Pin) (ss : List Pin) (sv : Value) (mv : Option Nat) (R : List UInt8 → Value) (n : Nat) : Prop where
  box : w.heap[p]? = some (.cells #[sv, .map mv, .int .u64 ((last.getD 0 : Nat) : Int), .bool last.isSome] 60 (0, 0))
  jp : J p = 1
  srt : w.ownsRow 0 64 1 sv ss.length (ptrs ss)
  js : ∀ q, sv.ownBlock = some q → J q = 3
  spin : ∀ x ∈ ss, PinAt w J x
  vpin : ∀ t, ∀ x ∈ V t, PinAt w J x
  map : MapAt w J mv R n
  row : ∀ t, w.ownsRow 0 64 1 (R t) (V t).length (ptrs (V t))
  jr : ∀ t q, (R t).ownBlock = some q → J q = tn t
  in_ : ∀ i, J i ≠ 0 → i < w.heap.size
section
variable {w w' : World} {J J' : Nat → Nat} {S : Nat → Prop} {p n : Nat} {last : Option Nat} {V : List UInt8 → List Pin} {ss : List Pin} {sv : Value} {mv : Option Nat} {R : List UInt8 → Value}
theorem PinAt.keep {x : Pin} (h : PinAt w J x) (hb : ∀ i, J i = 4 → w'.heap[i]? = w.heap[i]?) : PinAt w' J x :=
  ⟨(hb _ h.kind).trans h.box, h.kind, h.fits, own_same h.labs fun q hq => hb q (h.lkind q hq), h.lkind⟩
theorem PinAt.mo {x : Pin} (h : PinAt w J x) (ht : Mo J J' S w w') (hS : ¬ S 4) : PinAt w' J' x := by
  obtain ⟨h1, h2⟩ := ht.keep x.1 h.box.lt (by rw [h.kind]; exact hS)
  obtain ⟨h3, h4⟩ := own_mo h.labs h.lkind ht hS
  exact ⟨h1.trans h.box, h2.trans h.kind, h.fits, h3, h4⟩
/-- The numbers alone change, of other blocks. -/
theorem PinAt.renum {x : Pin} (h : PinAt w J x) (hJ : ∀ i, J i = 4 → J' i = 4) : PinAt w J' x := ⟨h.box, hJ _ h.kind, h.fits, h.labs, fun q hq => hJ q (h.lkind q hq)⟩
theorem MapAt.keep (h : MapAt w J mv R n) (hb : ∀ i, J i = 2 → w'.heap[i]? = w.heap[i]?) : MapAt w' J mv R n := by
  rcases h with h | ⟨M, D, h1, h2, h3, h4⟩
  · exact .inl h
  · exact .inr ⟨M, D, h1, h2, map_same h3 (hb M h2), h4⟩
theorem MapAt.mo (h : MapAt w J mv R n) (ht : Mo J J' S w w') (hS : ¬ S 2) : MapAt w' J' mv R n := by
  rcases h with h | ⟨M, D, h1, h2, h3, h4⟩
  · exact .inl h
  · obtain ⟨a, b⟩ := ht.keep M (map_lt h3) (by rw [h2]; exact hS)
    exact .inr ⟨M, D, h1, b.trans h2, map_same h3 a, h4⟩
theorem HM.lt (h : HM w J p last V ss sv mv R n) : p < w.heap.size := (Array.getElem?_eq_some_iff.1 h.box).1
/-- Where nothing of the head's has changed. -/
theorem HM.keep (h : HM w J p last V ss sv mv R n) (hs : w.heap.size ≤ w'.heap.size) (hb : ∀ i, J i ≠ 0 → w'.heap[i]? = w.heap[i]?) : HM w' J p last V ss sv mv R n := by
  have h4 : ∀ i, J i = 4 → w'.heap[i]? = w.heap[i]? := fun i hi => hb i (by omega)
  exact ⟨(hb p (by rw [h.jp]; omega)).trans h.box, h.jp, own_same h.srt fun q hq => hb q (by rw [h.js q hq]; omega), h.js, fun x hx => (h.spin x hx).keep h4, fun t x hx => (h.vpin t x hx).keep h4,
    h.map.keep fun i hi => hb i (by omega), fun t => own_same (h.row t) fun q hq => hb q (by rw [h.jr t q hq]; have := tn_ge t; omega), h.jr, fun i hi => Nat.lt_of_lt_of_le (h.in_ i hi) hs⟩
theorem HM.below (h : HM w J p last V ss sv mv R n) (hb : Below w.heap.size w w') : HM w' J p last V ss sv mv R n := h.keep hb.size fun i hi => hb.block i (h.in_ i hi)
/-- The box's own cells. -/
theorem HM.reset {last' : Option Nat} (h : HM w J p last V ss sv mv R n) (hbox : w'.heap[p]? = some (.cells #[sv, .map mv, .int .u64 ((last'.getD 0 : Nat) : Int), .bool last'.isSome] 60 (0, 0))) (hs : w.heap.size ≤ w'.heap.size) (hb : ∀ i, i < w.heap.size → i ≠ p → w'.heap[i]? = w.heap[i]?) : HM w' J p last' V ss sv mv R n := by
  have hb' : ∀ i, J i ≠ 0 → J i ≠ 1 → w'.heap[i]? = w.heap[i]? := fun i h0 h1 => hb i (h.in_ i h0) (fun e => h1 (by rw [e, h.jp]))
  have h4 : ∀ i, J i = 4 → w'.heap[i]? = w.heap[i]? := fun i hi => hb' i (by omega) (by omega)
  exact ⟨hbox, h.jp, own_same h.srt fun q hq => hb' q (by rw [h.js q hq]; omega) (by rw [h.js q hq]; omega), h.js, fun x hx => (h.spin x hx).keep h4, fun t x hx => (h.vpin t x hx).keep h4,
    h.map.keep fun i hi => hb' i (by omega) (by omega), fun t => own_same (h.row t) fun q hq => hb' q (by rw [h.jr t q hq]; have := tn_ge t; omega) (by rw [h.jr t q hq]; have := tn_ge t; omega), h.jr, fun i hi => Nat.lt_of_lt_of_le (h.in_ i hi) hs⟩
/-- Blocks that were nobody's become records' or labels'. -/
theorem HM.renum (h : HM w J p last V ss sv mv R n) (hJ : ∀ i, J' i ≠ J i → J i = 0 ∧ J' i = 4 ∧ i < w.heap.size) : HM w J' p last V ss sv mv R n := by
  have key : ∀ i k, J i = k → k ≠ 0 → J' i = k := fun i k hk h0 => Decidable.byContradiction fun hn => by
    have := (hJ i (by omega)).1
    omega
  have h4 : ∀ i, J i = 4 → J' i = 4 := fun i hi => key i 4 hi (by omega)
  refine ⟨h.box, key p 1 h.jp (by omega), h.srt, fun q hq => key q 3 (h.js q hq) (by omega), fun x hx => (h.spin x hx).renum h4, fun t x hx => (h.vpin t x hx).renum h4, ?_, h.row, fun t q hq => key q _ (h.jr t q hq) (by have := tn_ge t; omega), fun i hi => ?_⟩
  · rcases h.map with h | ⟨M, D, h1, h2, h3, h4⟩
    · exact .inl h
    · exact .inr ⟨M, D, h1, key M 2 h2 (by omega), h3, h4⟩
  · by_cases e : J' i = J i
    · exact h.in_ i (by rw [← e]; exact hi)
    · exact (hJ i e).2.2
/-- A look into the map. -/
theorem MapAt.look (h : MapAt w J mv R n) {t : List UInt8} (hR : RowV (R t)) (ht : t.length ≤ maxLen) (hW : ∀ M, mv = some M → w'.heap[M]? = w.heap[M]?) :
    (Instr.lookup 58 (.map mv) (S8 t) false).run Tryz.prog w' = .ok (R t) w' := by
  rcases h with ⟨rfl, h⟩ | ⟨M, D, rfl, _, hm, hD⟩
  · have := Maps.look_nil (w := w') false keyed Tryz.underlying58 (zeroS w') (key t ht)
    rw [this, h t]
    rfl
  · obtain ⟨v, ps, hrun, hv⟩ := (map_same hm (hW M rfl)).lookup keyed Tryz.underlying58 (zeroS w') slcR_nil (key t ht)
    rw [hD] at hv
    rw [hrun, slcR_inv hR hv]
/-- A term's row has grown, and stands in the map. -/
theorem HM.put {M : Nat} (h : HM w J p last V ss sv (some M) R n) {t : List UInt8} (ht : t.length ≤ maxLen) (hn : n < maxLen) {x : Pin} (hx : PinAt w J x) {w1 : World} {v' : Value} (hg : w.grownBy w1 (R t).ownBlock)
    (ho : w1.ownsRow 0 64 1 v' ((V t).length + 1) (ptrs (V t) ++ [ptr x.1])) (hv : v'.ownBlock = (R t).ownBlock ∨ ∃ g, v'.ownBlock = some g ∧ w.heap.size ≤ g) :
    ∃ w2, (Instr.mapUpdate 58 (.map (some M)) (S8 t) v').run Tryz.prog w1 = .ok () w2 ∧ w1.heap.size ≤ w2.heap.size ∧
      ∃ J' R', HM w2 J' p last (fun t' => if t' = t then V t ++ [x] else V t') ss sv (some M) R' (n + 1) ∧ Mo J J' (fun k => k ≠ 0) w w2 ∧ ∀ y, PinAt w J y → PinAt w2 J' y := by
  rcases h.map with ⟨h0, _⟩ | ⟨M', D, h0, hJM, hm, hD⟩
  · cases h0
  cases h0
  have hMlt := map_lt hm
  have htn := tn_ge t
  have hMR : ∀ q, (R t).ownBlock = some q → q ≠ M := fun q hq e => by
    have := h.jr t q hq
    rw [e, hJM] at this
    omega
  have hm1 : w1.ownsMap Tryz.prog 9 slcR M n D := map_same hm (hg.block M hMlt (fun e => hMR M e.symm rfl))
  obtain ⟨w2, hrun, hm2, hmt⟩ := hm1.store keyed Tryz.underlying58 hn (key t ht) (slcR_code (own_rowV ho))
  have hg2 := hmt.grown
  have hIs := hm1.isMap
  refine ⟨w2, hrun, hg2.size, fun i => if v'.ownBlock = some i then tn t else J i, fun t' => if t' = t then v' else R t', ?_⟩
  have hold : ∀ i, i < w.heap.size → v'.ownBlock = some i → (R t).ownBlock = some i := fun i hi e => by
    rcases hv with hv | ⟨g, hv, hge⟩
    · rw [← hv]; exact e
    · rw [hv] at e
      have e := Option.some.inj e
      rw [e] at hge
      exact absurd hi (Nat.not_lt.2 hge)
  have hMo : Mo J (fun i => if v'.ownBlock = some i then tn t else J i) (fun k => k = 2 ∨ k = tn t) w w2 := by
    refine ⟨hg2.os.trans hg.os, hg2.tape.trans hg.tape, hg2.output.trans hg.output, Nat.le_trans hg.size hg2.size, fun i hi hk => ?_⟩
    have h1 : (R t).ownBlock ≠ some i := fun e => hk (.inr (h.jr t i e))
    have h2 : i ≠ M := fun e => hk (.inl (by rw [e, hJM]))
    exact ⟨(hg2.block i (Nat.lt_of_lt_of_le hi hg.size) (fun e => h2 (by injection e))).trans (hg.block i hi (fun e => h1 e.symm)), if_neg (fun e => h1 (hold i hi e))⟩
  have n4 : ¬ ((4 : Nat) = 2 ∨ 4 = tn t) := by omega
  have n3 : ¬ ((3 : Nat) = 2 ∨ 3 = tn t) := by omega
  have n1 : ¬ ((1 : Nat) = 2 ∨ 1 = tn t) := by omega
  have hvlt := ho.lt
  have hvM : ∀ q, v'.ownBlock = some q → q ≠ M := fun q hq e => by
    subst e
    exact hMR q (hold q hMlt hq) rfl
  refine ⟨?_, hMo.widen (fun k hk => by omega), fun y hy => hy.mo hMo n4⟩
  obtain ⟨b1, b2⟩ := hMo.keep p h.lt (by rw [h.jp]; exact n1)
  obtain ⟨s1, s2⟩ := own_mo h.srt h.js hMo n3
  refine ⟨b1.trans h.box, b2.trans h.jp, s1, s2, fun y hy => (h.spin y hy).mo hMo n4, fun t' y hy => ?_, .inr ⟨M, _, rfl, ?_, hm2, fun t' => ?_⟩, fun t' => ?_, fun t' q hq => ?_, fun i hi => ?_⟩
  · have hy : y ∈ (if t' = t then V t ++ [x] else V t') := hy
    by_cases e : t' = t
    · rw [if_pos e] at hy
      rcases List.mem_append.1 hy with hy | hy
      · exact (h.vpin t y hy).mo hMo n4
      · rw [List.mem_singleton.1 hy]
        exact hx.mo hMo n4
    · rw [if_neg e] at hy
      exact (h.vpin t' y hy).mo hMo n4
  · show (if v'.ownBlock = some M then tn t else J M) = 2
    rw [if_neg (fun e => hvM M e rfl)]
    exact hJM
  · show (D.put (.string t) (code v')).atKey (.string t') nothing = code (if t' = t then v' else R t')
    by_cases e : t' = t
    · rw [if_pos e, e, atKey_put_same hIs (by trivial)]
    · rw [if_neg e, atKey_put_other (fun e' => e (by injection e')), hD]
  · show w2.ownsRow 0 64 1 (if t' = t then v' else R t') (if t' = t then V t ++ [x] else V t').length (ptrs (if t' = t then V t ++ [x] else V t'))
    by_cases e : t' = t
    · rw [if_pos e, if_pos e]
      have := own_same (w' := w2) ho (fun q hq => hg2.block q (hvlt q hq).2 (fun e => hvM q hq (by injection e)))
      have e2 : ptrs (V t ++ [x]) = ptrs (V t) ++ [ptr x.1] := by simp [ptrs]
      rw [e2, List.length_append]
      exact this
    · rw [if_neg e, if_neg e]
      refine (own_mo (h.row t') (h.jr t') hMo ?_).1
      have := tn_ge t'
      exact fun e' => e (tn_inj (by omega))
  · show (if v'.ownBlock = some q then tn t else J q) = tn t'
    have hq : (if t' = t then v' else R t').ownBlock = some q := hq
    by_cases e : t' = t
    · rw [if_pos e] at hq
      rw [if_pos hq, e]
    · rw [if_neg e] at hq
      have hlt := ((h.row t').lt q hq).2
      have hj := h.jr t' q hq
      rw [if_neg (fun e' => e (tn_inj (by rw [← hj, h.jr t q (hold q hlt e')])))]
      exact hj
  · have hi : (if v'.ownBlock = some i then tn t else J i) ≠ 0 := hi
    by_cases e : v'.ownBlock = some i
    · exact Nat.lt_of_lt_of_le (hvlt i e).2 hg2.size
    · rw [if_neg e] at hi
      exact Nat.lt_of_lt_of_le (h.in_ i hi) (Nat.le_trans hg.size hg2.size)
/-- A new map, empty. -/
theorem HM.newMap (h : HM w J p last V ss sv none R n) {w' : World} (hbox : w'.heap[p]? = some (.cells #[sv, .map (some w.heap.size), .int .u64 ((last.getD 0 : Nat) : Int), .bool last.isSome] 60 (0, 0)))
    (hm : w'.heap[w.heap.size]? = some (.map #[] 0)) (hb : ∀ i, i < w.heap.size → i ≠ p → w'.heap[i]? = w.heap[i]?) : HM w' (fun i => if i = w.heap.size then 2 else J i) p last V ss sv (some w.heap.size) R 0 := by
  have hnew : J w.heap.size = 0 := Decidable.byContradiction fun e => by have := h.in_ _ e; omega
  have hsz : w.heap.size < w'.heap.size := (Array.getElem?_eq_some_iff.1 hm).1
  have key : ∀ i k, J i = k → k ≠ 0 → (if i = w.heap.size then 2 else J i) = k := fun i k hk h0 => by
    rw [if_neg (fun e => by subst e; omega)]
    exact hk
  have hb' : ∀ i, J i ≠ 0 → J i ≠ 1 → w'.heap[i]? = w.heap[i]? := fun i h0 h1 => hb i (h.in_ i h0) (fun e => h1 (by rw [e, h.jp]))
  have h4 : ∀ i, J i = 4 → w'.heap[i]? = w.heap[i]? := fun i hi => hb' i (by omega) (by omega)
  have h5 : ∀ i, J i = 4 → (if i = w.heap.size then 2 else J i) = 4 := fun i hi => key i 4 hi (by omega)
  rcases h.map with ⟨_, hR⟩ | ⟨M, D, h0, _⟩
  · refine ⟨hbox, key p 1 h.jp (by omega), own_same h.srt fun q hq => hb' q (by rw [h.js q hq]; omega) (by rw [h.js q hq]; omega), fun q hq => key q 3 (h.js q hq) (by omega), fun x hx => ((h.spin x hx).keep h4).renum h5, fun t x hx => ((h.vpin t x hx).keep h4).renum h5,
      .inr ⟨w.heap.size, .map [], rfl, if_pos rfl, ?_, fun t => by rw [hR t]; rfl⟩, fun t => own_same (h.row t) fun q hq => hb' q (by rw [h.jr t q hq]; have := tn_ge t; omega) (by rw [h.jr t q hq]; have := tn_ge t; omega), fun t q hq => key q _ (h.jr t q hq) (by have := tn_ge t; omega), fun i hi => ?_⟩
    · obtain ⟨es, clock, h1, h2⟩ := World.ownsMap_made w Tryz.prog 9 slcR
      have h3 : (w.alloc (.map #[] 0)).heap[w.heap.size]? = some (.map #[] 0) := (MapKept.heap_alloc w _).1
      rw [h3] at h1
      injection h1 with h1
      injection h1 with h1 h6
      subst h1 h6
      exact ⟨_, _, hm, h2⟩
    · by_cases e : i = w.heap.size
      · rw [e]; exact hsz
      · rw [if_neg e] at hi
        exact Nat.lt_trans (h.in_ i hi) hsz
  · cases h0
end
end Go.Proofs.YtkgmcabamhpjhaaGreat.HpMem

namespace Go.Proofs
open Go.Shelf
def Tryz.searchP_ren : Go.Shelf.Ren := ⟨fun | 14 => 37 | n => n, fun | 22 => 57 | 24 => 64 | 29 => 64 | 32 => 67 | 3 => 3 | 4 => 4 | 35 => 53 | 0 => 0 | n => n, fun | n => n⟩
theorem Tryz.searchP : Go.Proofs.SlLaysG2.n14 Tryz.prog Tryz.searchP_ren := {
  mixed := by kernel_rfl
  f14 := ⟨Tryz.f37.name, by decide, Tryz.func37.trans (congrArg some (by kernel_rfl))⟩
  t0 := Tryz.underlying0
  a0 := Tryz.isAgg0
  z0 := Tryz.sizeOf0
  v0 := Tryz.zeroValue0
  t3 := Tryz.underlying3
  a3 := Tryz.isAgg3
  z3 := Tryz.sizeOf3
  v3 := Tryz.zeroValue3
  t4 := Tryz.underlying4
  a4 := Tryz.isAgg4
  z4 := Tryz.sizeOf4
  v4 := Tryz.zeroValue4
  t22 := Tryz.underlying57
  a22 := Tryz.isAgg57
  z22 := Tryz.sizeOf57
  v22 := Tryz.zeroValue57
  a24 := Tryz.isAgg64
  z24 := Tryz.sizeOf64
  a29 := Tryz.isAgg64
  z29 := Tryz.sizeOf64
  t32 := Tryz.underlying67
  a32 := Tryz.isAgg67
  z32 := Tryz.sizeOf67
  v32 := Tryz.zeroValue67
  t35 := Tryz.underlying53
  a35 := Tryz.isAgg53
  z35 := Tryz.sizeOf53
  v35 := Tryz.zeroValue53 }
end Go.Proofs

namespace Go.Proofs.YtkgmcabamhpjhaaGreat.HpSearch
open Go Go.RowKit Words Less LbSpec LbMem LbRef LbCmp UtOwn LpOrd LpBoth RcSpec RcAll RcMem RpCmp HdSpec HpSpec HpGr HpBox
open Go.Sort (putRow Holds)

/-- Records that lie apart from block g. -/
abbrev PinS (w : World) (g : Nat) := { x : Pin // Box w x ∧ x.1 ≠ g }
section
variable {w : World} {g : Nat}
def encS (x : PinS w g) : Value := ptr x.1.1
def cfS (x y : PinS w g) : Int := cfP x.1 y.1
def subs (l : List Pin) (h : ∀ x ∈ l, Box w x ∧ x.1 ≠ g) : List (PinS w g) := l.attachWith _ h
theorem subs_val (l : List Pin) (h : ∀ x ∈ l, Box w x ∧ x.1 ≠ g) : (subs l h).map Subtype.val = l := List.attachWith_map_subtype_val h
theorem subs_len (l : List Pin) (h : ∀ x ∈ l, Box w x ∧ x.1 ≠ g) : (subs l h).length = l.length := by unfold subs; simp
theorem subs_at (l : List Pin) (h : ∀ x ∈ l, Box w x ∧ x.1 ≠ g) {j : Nat} (hj : j < l.length) : ((subs l h)[j]'(by rw [subs_len]; exact hj)).1 = l[j] := by unfold subs; simp
/-- What the library's word on worlds says of other blocks. -/
theorem other {α : Type} [Inhabited α] (enc : α → Value) (off m : Nat) (dk : Array α) (os : Array Obj) {i : Nat} (hi : i < w.heap.size) (hg : i ≠ g) : (sortWorld enc w g off m dk os).heap[i]? = w.heap[i]? := by
  unfold sortWorld
  rw [Sort.heap_grow_old _ _ (by simpa using hi)]
  have : g ≠ i := fun e => hg e.symm
  simp [putRow, Sort.mapBlock, Sort.ahead, Array.getElem?_modify, this]
theorem box_other {α : Type} [Inhabited α] (enc : α → Value) (off m : Nat) (dk : Array α) (os : Array Obj) {x : Pin} (h : Box w x) (hg : x.1 ≠ g) : Box (sortWorld enc w g off m dk os) x := (other enc off m dk os h.lt hg).trans h
theorem sw_below {α : Type} [Inhabited α] {enc : α → Value} {d : Array α} {w' : World} (h : Holds enc w g 0 d) (hs : SW enc w g 0 d w') : Below w.heap.size w w' := by
  obtain ⟨n, os, rfl⟩ := hs
  unfold sortWorld
  rw [Sort.putRow_ahead, Sort.putRow_self enc w g 0 d h]
  exact ⟨rfl, rfl, rfl, by simp, fun k hk => Sort.heap_grow_old _ _ hk⟩
end
theorem cnt_map {α β : Type} (cf : α → α → Int) (f : β → α) (l : List β) (r : α) : (l.countP fun x => decide (cf (f x) r < 0)) = cnt cf (l.map f) r := by
  unfold cnt
  rw [List.countP_map]
  rfl

/-- Is the record itself there? -/
def there (l : List Pin) (r : Pin) : Bool := decide (cnt cfP l r < l.length) && decide (cfP (l.getD (cnt cfP l r) none_) r = 0)
/-- slices.BinarySearchFunc among records in order: how many are ahead. -/
theorem search_any (w : World) (g : Nat) (l : List Pin) (r : Pin) (cap : Nat) (hrow : ∀ j, (hj : j < l.length) → w.cell? ⟨g, j, none⟩ = some (ptr l[j].1) ∧ w.frozen? ⟨g, j, none⟩ = false) (hg : g < w.heap.size)
    (hl : ∀ x ∈ l, Box w x ∧ x.1 ≠ g) (hr : Box w r ∧ r.1 ≠ g) (ha : Asc cfP l) (hn : l.length < 4611686018427387904) :
    Calls Tryz.prog 37 #[.slice (some ⟨g, 0, none⟩) l.length cap, ptr r.1, .func (.func 32) #[] #[]] w fun e w' => e = .returned (.tuple #[.int .i64 (cnt cfP l r : Int), .bool (there l r)]) ∧ Below w.heap.size w w' := by
  haveI : Inhabited (PinS w g) := ⟨⟨r, hr⟩⟩
  have eg : ∀ args w, (callFunc 32 args).run Tryz.prog w = .ok (.enter 32 args) w := enters_of Tryz.func32 (by kernel_rfl) rfl
  have hsz : (subs l hl).toArray.size = l.length := by simp [subs_len]
  have hget : ∀ j, (hj : j < l.length) → (subs l hl).toArray[j]!.1 = l[j] := fun j hj => by
    rw [getElem!_pos _ j (by rw [hsz]; exact hj)]
    simp only [List.getElem_toArray]
    exact subs_at l hl hj
  have hH : Holds encS w g 0 (subs l hl).toArray := fun j hj => by
    rw [hsz] at hj
    have := hrow j hj
    rw [Nat.zero_add]
    unfold encS
    rw [hget j hj]
    exact this
  have hcmp : CmpLaysT Tryz.prog 32 #[] (encS (w := w) (g := g)) (ptr r.1) (fun x => cfP x.1 r) g 0 (subs l hl).toArray.size w := fun m os dk _ x =>
    (byOrder_any _ x.1 r (box_other encS 0 m dk os x.2.1 x.2.2) (box_other encS 0 m dk os hr.1 hr.2)).mono fun e w' ⟨he, q, os', hw⟩ => ⟨he, q, os', hw⟩
  have hP := List.pairwise_iff_getElem.1 ha
  have h := Any.slices_BinarySearchFunc Tryz.searchP encS (fun x => rfl) (ptr r.1) (fun x => cfP x.1 r) 32 #[] g 0 cap (subs l hl).toArray w eg hcmp hH hg (by rw [hsz]; exact hn) (fun a b hab hb hlt => by
    rw [hsz] at hb
    rw [hget b hb] at hlt
    rw [hget a (by omega)]
    by_cases e : a = b
    · subst e; exact hlt
    · exact lt_of cfP_le cfP_turn (hP a b (by omega) hb (by omega)) hlt)
  rw [hsz] at h
  refine Calls.mono h ?_
  rintro e w' ⟨he, hs⟩
  have e1 : (subs l hl).toArray.toList.countP (fun x => decide (cfP x.1 r < 0)) = cnt cfP l r := by
    have := cnt_map cfP Subtype.val (subs l hl) r
    rw [subs_val] at this
    exact this
  rw [e1] at he
  refine ⟨he.trans ?_, sw_below hH hs⟩
  have e2 : (decide (cnt cfP l r < l.length) && decide (cfP ((subs l hl).toArray[cnt cfP l r]!).1 r = 0)) = there l r := by
    unfold there
    by_cases hc : cnt cfP l r < l.length
    · rw [hget _ hc, List.getD_eq_getElem?_getD, List.getElem?_eq_getElem hc]
      rfl
    · rw [decide_eq_false hc]
      simp
  rw [← e2]
theorem search_nil (w : World) (p : Option Addr) (cap : Nat) (t f : Value) :
    Calls Tryz.prog 37 #[.slice p 0 cap, t, f] w fun e w' => e = .returned (.tuple #[.int .i64 0, .bool false]) ∧ w' = w :=
  Any.slices_BinarySearchFunc_none Tryz.searchP p cap t f w
end Go.Proofs.YtkgmcabamhpjhaaGreat.HpSearch

namespace Go.Proofs
open Go.Shelf
def Tryz.sortP_ren : Go.Shelf.Ren := ⟨fun | 6 => 31 | 15 => 54 | 14 => 53 | 28 => 86 | 29 => 87 | 20 => 78 | 21 => 79 | 22 => 80 | 23 => 81 | 24 => 82 | 25 => 83 | 26 => 84 | 27 => 85 | 46 => 116 | 47 => 117 | 48 => 118 | 49 => 119 | 50 => 120 | 57 => 142 | n => n, fun | 22 => 57 | 24 => 64 | 25 => 67 | 3 => 3 | 39 => 53 | 0 => 0 | 53 => 122 | 55 => 44 | 4 => 4 | 46 => 116 | 45 => 115 | 50 => 71 | 5 => 5 | 9 => 9 | 66 => 141 | 70 => 145 | 76 => 167 | 77 => 168 | n => n, fun | n => n⟩
theorem Tryz.sortP : Go.Proofs.SlLaysF.n6 Tryz.prog Tryz.sortP_ren := {
  mixed := by kernel_rfl
  f6 := ⟨Tryz.f31.name, by decide, Tryz.func31.trans (congrArg some (by kernel_rfl))⟩
  f14 := ⟨Tryz.f53.name, by decide, Tryz.func53.trans (congrArg some (by kernel_rfl))⟩
  f15 := Tryz.func54.trans (congrArg some (by kernel_rfl))
  f20 := ⟨Tryz.f78.name, by decide, Tryz.func78.trans (congrArg some (by kernel_rfl))⟩
  f21 := ⟨Tryz.f79.name, by decide, Tryz.func79.trans (congrArg some (by kernel_rfl))⟩
  f22 := ⟨Tryz.f80.name, by decide, Tryz.func80.trans (congrArg some (by kernel_rfl))⟩
  f23 := ⟨Tryz.f81.name, by decide, Tryz.func81.trans (congrArg some (by kernel_rfl))⟩
  f24 := ⟨Tryz.f82.name, by decide, Tryz.func82.trans (congrArg some (by kernel_rfl))⟩
  f25 := ⟨Tryz.f83.name, by decide, Tryz.func83.trans (congrArg some (by kernel_rfl))⟩
  f26 := ⟨Tryz.f84.name, by decide, Tryz.func84.trans (congrArg some (by kernel_rfl))⟩
  f27 := ⟨Tryz.f85.name, by decide, Tryz.func85.trans (congrArg some (by kernel_rfl))⟩
  f28 := Tryz.func86.trans (congrArg some (by kernel_rfl))
  f29 := Tryz.func87.trans (congrArg some (by kernel_rfl))
  f46 := ⟨Tryz.f116.name, by decide, Tryz.func116.trans (congrArg some (by kernel_rfl))⟩
  f47 := Tryz.func117.trans (congrArg some (by kernel_rfl))
  f48 := Tryz.func118.trans (congrArg some (by kernel_rfl))
  f49 := ⟨Tryz.f119.name, by decide, Tryz.func119.trans (congrArg some (by kernel_rfl))⟩
  f50 := ⟨Tryz.f120.name, by decide, Tryz.func120.trans (congrArg some (by kernel_rfl))⟩
  f57 := ⟨Tryz.f142.name, by decide, Tryz.func142.trans (congrArg some (by kernel_rfl))⟩
  t0 := Tryz.underlying0
  a0 := Tryz.isAgg0
  z0 := Tryz.sizeOf0
  v0 := Tryz.zeroValue0
  t3 := Tryz.underlying3
  a3 := Tryz.isAgg3
  z3 := Tryz.sizeOf3
  v3 := Tryz.zeroValue3
  t4 := Tryz.underlying4
  a4 := Tryz.isAgg4
  z4 := Tryz.sizeOf4
  v4 := Tryz.zeroValue4
  t5 := Tryz.underlying5
  a5 := Tryz.isAgg5
  z5 := Tryz.sizeOf5
  v5 := Tryz.zeroValue5
  t9 := Tryz.underlying9
  a9 := Tryz.isAgg9
  z9 := Tryz.sizeOf9
  v9 := Tryz.zeroValue9
  t22 := Tryz.underlying57
  a22 := Tryz.isAgg57
  z22 := Tryz.sizeOf57
  v22 := Tryz.zeroValue57
  a24 := Tryz.isAgg64
  z24 := Tryz.sizeOf64
  t25 := Tryz.underlying67
  a25 := Tryz.isAgg67
  z25 := Tryz.sizeOf67
  v25 := Tryz.zeroValue67
  t39 := Tryz.underlying53
  a39 := Tryz.isAgg53
  z39 := Tryz.sizeOf53
  v39 := Tryz.zeroValue53
  t45 := Tryz.underlying115
  a45 := Tryz.isAgg115
  z45 := Tryz.sizeOf115
  v45 := Tryz.zeroValue115
  t46 := Tryz.underlying116
  a46 := Tryz.isAgg116
  z46 := Tryz.sizeOf116
  v46 := Tryz.zeroValue116
  t50 := Tryz.underlying71
  a50 := Tryz.isAgg71
  z50 := Tryz.sizeOf71
  v50 := Tryz.zeroValue71
  t53 := Tryz.underlying122
  a53 := Tryz.isAgg122
  z53 := Tryz.sizeOf122
  v53 := Tryz.zeroValue122
  t55 := Tryz.underlying44
  a55 := Tryz.isAgg44
  z55 := Tryz.sizeOf44
  v55 := Tryz.zeroValue44
  t66 := Tryz.underlying141
  a66 := Tryz.isAgg141
  z66 := Tryz.sizeOf141
  v66 := Tryz.zeroValue141
  t70 := Tryz.underlying145
  a70 := Tryz.isAgg145
  z70 := Tryz.sizeOf145
  v70 := Tryz.zeroValue145
  t76 := Tryz.underlying167
  a76 := Tryz.isAgg167
  z76 := Tryz.sizeOf167
  v76 := Tryz.zeroValue167
  t77 := Tryz.underlying168
  a77 := Tryz.isAgg168
  z77 := Tryz.sizeOf168
  v77 := Tryz.zeroValue168 }
end Go.Proofs

namespace Go.Proofs.YtkgmcabamhpjhaaGreat.HpSort
open Go Go.RowKit Words Less LbSpec LbMem LbRef LbCmp UtOwn LpOrd LpBoth RcAll RcMem RpCmp HdSpec HpSpec HpGr HpBox HpSearch HpMem
open RcSpec hiding none
open Go.Sort (putRow Holds PermIn SortedIn)

theorem lt_dec {w : World} {g : Nat} (x y : PinS w g) : ltOf (fun x y : PinS w g => cfP x.1 y.1) x y = decide (cfP x.1 y.1 < 0) := rfl
theorem swoS {w : World} {g : Nat} : Go.Sort.SWO (ltOf (fun x y : PinS w g => cfP x.1 y.1)) where
  irrefl x := by
    have := cfP_turn x.1 x.1
    rw [lt_dec, decide_eq_false_iff_not]
    omega
  trans x y z h1 h2 := by
    rw [lt_dec, decide_eq_true_eq] at *
    exact lt_of cfP_le cfP_turn (show cfP x.1 y.1 ≤ 0 by omega) h2
  ntrans x y z h1 h2 := by
    rw [lt_dec, decide_eq_false_iff_not] at *
    have h3 := cfP_turn x.1 y.1
    have h4 := cfP_turn y.1 z.1
    have h5 := cfP_turn x.1 z.1
    have := cfP_le z.1 y.1 x.1 (by omega) (by omega)
    omega
theorem own_grow {w : World} {base n s : Nat} {e : TypeId} {v : Value} {xs : List Value} {os : Array Obj} (h : w.ownsRow base e s v n xs) : (Sort.grow w os).ownsRow base e s v n xs := by
  refine own_same h fun q hq => Sort.heap_grow_old _ _ (h.lt q hq).2

/-- slices.SortFunc of a row of the call's own. -/
theorem sort_any (w : World) (base : Nat) (v : Value) (l : List Pin) (hown : w.ownsRow base 64 1 v l.length (ptrs l)) (hl : ∀ x ∈ l, Box w x ∧ v.ownBlock ≠ some x.1) (hn : l.length < 4611686018427387904) :
    Calls Tryz.prog 31 #[v, .func (.func 32) #[] #[]] w fun e w' => e = .returned (.tuple #[]) ∧ ∃ L, L.Perm l ∧ HpSpec.Asc cfP L ∧ w'.ownsRow base 64 1 v L.length (ptrs L) ∧ w.grownBy w' v.ownBlock := by
  have hnone : ∀ p c, l = [] → v = .slice p 0 c → Calls Tryz.prog 31 #[v, .func (.func 32) #[] #[]] w fun e w' => e = .returned (.tuple #[]) ∧ ∃ L, L.Perm l ∧ HpSpec.Asc cfP L ∧ w'.ownsRow base 64 1 v L.length (ptrs L) ∧ w.grownBy w' v.ownBlock := fun p c h0 hv => by
    subst h0
    have h := AnyF.slices_SortFunc_none (P := Tryz.prog) (ρ := Tryz.sortP_ren) { Tryz.sortP with } p c (.func (.func 32) #[] #[]) w
    rw [hv] at hown ⊢
    exact Calls.mono h fun e w' ⟨he, hw⟩ => ⟨he, [], List.Perm.refl _, List.Pairwise.nil, by subst hw; exact hown, by subst hw; exact ⟨rfl, rfl, rfl, Nat.le_refl _, fun _ _ _ => rfl⟩⟩
  rcases hown.2 with ⟨hv, h0⟩ | ⟨g, cap, cur, hv, hbase, hb, h1, h2, h3, h4⟩
  · exact hnone none 0 (List.eq_nil_of_length_eq_zero h0) hv
  · cases hl0 : l with
    | nil => rw [hl0] at hv; exact hl0 ▸ hnone _ _ hl0 hv
    | cons x0 l0 =>
      rw [← hl0]
      subst hv
      have hl' : ∀ x ∈ l, Box w x ∧ x.1 ≠ g := fun x hx => ⟨(hl x hx).1, fun e => (hl x hx).2 (by rw [e]; rfl)⟩
      haveI : Inhabited (PinS w g) := ⟨⟨x0, hl' x0 (by rw [hl0]; simp)⟩⟩
      have hg := (Array.getElem?_eq_some_iff.1 hb).1
      have eg : ∀ args w, (callFunc 32 args).run Tryz.prog w = .ok (.enter 32 args) w := enters_of Tryz.func32 (by kernel_rfl) rfl
      have hmap : ∀ l2 : List (PinS w g), ptrs (l2.map Subtype.val) = l2.map encS := fun l2 => by unfold ptrs encS; rw [List.map_map]; rfl
      have hown2 : w.ownsRow base 64 1 (.slice (some ⟨g, 0, none⟩) l.length cap) l.length ((subs l hl').map encS) := by
        rw [← hmap, subs_val]; exact hown
      obtain ⟨g', cap', he, _, _, _, _, hlen, hH⟩ := Lib.holds_of_ownsRow (enc := encS (w := w) (g := g)) hown2 (by simp)
      injection he with he1 _ he3
      injection he1 with he1
      injection he1 with he1
      subst he1 he3
      have hcmp : CmpLays1 Tryz.prog 32 #[] (encS (w := w) (g := g)) (fun x y : PinS w g => cfP x.1 y.1) g 0 (subs l hl').toArray.size w := fun m os dk _ x y =>
        (byOrder_any _ x.1 y.1 (box_other encS 0 m dk os x.2.1 x.2.2) (box_other encS 0 m dk os y.2.1 y.2.2)).mono fun e w' ⟨he, q, os', hw⟩ => ⟨he, q, os', hw⟩
      have hsz : (subs l hl').toArray.size = l.length := by simp [subs_len]
      have h := Any.slices_SortFunc Tryz.sortP encS (fun x => rfl) (fun x y : PinS w g => cfP x.1 y.1) swoS 32 #[] g 0 cap (subs l hl').toArray w eg hcmp hH hg (by rw [hsz]; exact hn)
      rw [hsz] at h
      refine Calls.mono h ?_
      rintro e w' ⟨he, d', n, os, ⟨hps, _, hp⟩, hs, rfl⟩
      rw [hsz] at hps
      have hperm : d'.toList.Perm (subs l hl') := by
        rw [← hps, Array.extract_size] at hp
        rw [hps, ← hsz, Array.extract_size] at hp
        simpa using hp
      have hL : (d'.toList.map Subtype.val).Perm l := by
        have := hperm.map Subtype.val
        rwa [subs_val] at this
      refine ⟨he, d'.toList.map Subtype.val, hL, ?_, ?_, ?_⟩
      · unfold HpSpec.Asc
        rw [List.pairwise_map, List.pairwise_iff_getElem]
        intro i j hi hj hij
        have h5 := hs i j (Nat.zero_le _) hij (by simpa [hps] using hj)
        rw [lt_dec, decide_eq_false_iff_not] at h5
        rw [getElem!_pos d' j (by simpa using hj), getElem!_pos d' i (by simpa using hi)] at h5
        have h6 := cfP_turn (d'.toList[i]).1 (d'.toList[j]).1
        simp only [Array.getElem_toList] at *
        omega
      · unfold sortWorld
        have h5 := Lib.ownsRow_putRow (q := n) (k := l.length) (ys := d'.toList) hown2 (by simpa using hps) (Nat.le_refl _)
        rw [List.take_of_length_le (by simp [hps])] at h5
        have h6 := own_grow (os := os) h5
        rw [← hmap] at h6
        rw [show (d'.toList.map Subtype.val).length = l.length by simpa using hps]
        exact h6
      · refine ⟨rfl, rfl, rfl, by simp [sortWorld], fun k hk hne => ?_⟩
        exact other encS 0 n d' os hk (fun e => hne (by rw [e]; rfl))
end Go.Proofs.YtkgmcabamhpjhaaGreat.HpSort

