/- The contract of the document's Get of records. Conditions: the bytes lie in memory. -/
import Derived.Test.YtahbaifbihpppaaRcRefGt
import Derived.Test.YtahbaifbihpppaaRcRefPut
import Derived.Laws.ResultCell
import Derived.OneCell
namespace Go.Proofs.Ytahbaifbihpppaa.RcRefRd
open Go Go.RowKit Words AppN Less LbSpec LbText LbMem LbRef LbCmp LbCanon RcSpec RcAll RcMem RcRef RcRefPut RcRefGt UtOwn

/-! ### Plain -/
theorem labs_err : ∀ (k : Nat) (l : List UInt8), (labs k l).1 ≠ 0 → labs k l = ((labs k l).1, [], [])
  | 0, l, h => absurd rfl h
  | k + 1, l, h => by
    rw [labs] at h ⊢
    split
    · rfl
    · split
      · rfl
      · split
        · rfl
        · rename_i h1 h2 h3
          rw [if_neg h1, if_neg h2, if_neg h3] at h
          exact absurd rfl h
def after (acc : List Lab) (r : Nat × List Lab × List UInt8) : Nat × List Lab × List UInt8 := if r.1 ≠ 0 then (r.1, [], []) else (0, acc ++ r.2.1, r.2.2)
theorem after_nil (k : Nat) (l : List UInt8) : after [] (labs k l) = labs k l := by
  unfold after
  split
  · rename_i h; exact (labs_err k l h).symm
  · rename_i h
    rw [List.nil_append]
    exact (triple (by omega)).symm
theorem after_zero (acc : List Lab) (l : List UInt8) : after acc (labs 0 l) = (0, acc, l) := by simp [after, labs]
theorem after_e1 (acc : List Lab) (k : Nat) {l : List UInt8} (h : (txt l).1 ≠ 0) : after acc (labs (k + 1) l) = ((txt l).1, [], []) := by
  rw [labs, if_pos h]
  unfold after
  rw [if_pos h]
theorem after_e2 (acc : List Lab) (k : Nat) {l : List UInt8} (h1 : (txt l).1 = 0) (h : (txt (txt l).2.2).1 ≠ 0) : after acc (labs (k + 1) l) = ((txt (txt l).2.2).1, [], []) := by
  rw [labs, if_neg (by omega), if_pos h]
  unfold after
  rw [if_pos h]
theorem after_ok (acc : List Lab) (k : Nat) {l : List UInt8} (h1 : (txt l).1 = 0) (h2 : (txt (txt l).2.2).1 = 0) :
    after acc (labs (k + 1) l) = after (acc ++ [((txt l).2.1, (txt (txt l).2.2).2.1)]) (labs k (txt (txt l).2.2).2.2) := by
  rw [labs, if_neg (show ¬ (txt l).1 ≠ 0 by omega), if_neg (show ¬ (txt (txt l).2.2).1 ≠ 0 by omega)]
  generalize labs k (txt (txt l).2.2).2.2 = q
  unfold after
  by_cases h3 : q.1 = 0 <;> simp [h3]
def getF (r : Rec) (l : List UInt8) : Nat × Rec × List UInt8 := if check r ≠ 0 then (check r, RcSpec.none, []) else (0, r, l)
def getD (u s : Nat) (ls : List Lab) (l : List UInt8) : Nat × Rec × List UInt8 := if (txt l).1 ≠ 0 then ((txt l).1, RcSpec.none, []) else getF ⟨zagN u, s, ls, (txt l).2.1⟩ (txt l).2.2
def getC (u s : Nat) (q : Nat × List Lab × List UInt8) : Nat × Rec × List UInt8 := if q.1 ≠ 0 then (q.1, RcSpec.none, []) else getD u s q.2.1 q.2.2
def getB (u s : Nat) (l : List UInt8) : Nat × Rec × List UInt8 := if (num l).1 ≠ 0 then ((num l).1, RcSpec.none, []) else if 16 < (num l).2.1 then (3, RcSpec.none, []) else getC u s (labs (num l).2.1 (num l).2.2)
def getA (u : Nat) (l : List UInt8) : Nat × Rec × List UInt8 := if (num l).1 ≠ 0 then ((num l).1, RcSpec.none, []) else getB u (num l).2.1 (num l).2.2
theorem get_eq (l : List UInt8) : RcSpec.get l = if (num l).1 ≠ 0 then ((num l).1, RcSpec.none, []) else getA (num l).2.1 (num l).2.2 := rfl

/-! ### The walk -/

/-- What Get answers: the record, its labels in a row of the call's own; the place behind it. -/
def GPost (r : Nat × Rec × List UInt8) (b : List UInt8) (w : World) (e : Ending) (w' : World) : Prop :=
  ∃ (s : Sl) (p' : Nat), e = .returned (.tuple #[aggR (r.2.1, s), .int .i64 (if r.1 = 0 then (p' : Int) else 0), .int .i64 (r.1 : Int)]) ∧ (r.1 = 0 → p' ≤ b.length ∧ r.2.2 = b.drop p') ∧ w'.ownsRow w.heap.size 46 2 (slV s) r.2.1.labels.length (flat r.2.1.labels) ∧ Below w.heap.size w w'
/-- On the way: the result's box, 'none', 'x' behind the entry, the labels so far in a row of the call's own. -/
structure GSt (w : World) (t : Int) (s : Nat) (x : List UInt8) (v : Value) (acc : List Lab) (wr : World) : Prop where
  b0 : wr.heap[w.heap.size]? = some (.cells #[.int .i64 0, .int .u64 0, .slice .none 0 0, .string ⟨#[]⟩] 33 (0, 0))
  b1 : wr.heap[w.heap.size + 1]? = some (.cells #[.int .i64 0, .int .u64 0, .slice .none 0 0, .string ⟨#[]⟩] 33 (0, 0))
  b2 : wr.heap[w.heap.size + 1 + 1]? = some (.cells #[.int .i64 t, .int .u64 (s : Int), v, .string ⟨x.toArray⟩] 33 (0, 0))
  own : wr.ownsRow (w.heap.size + 3) 46 2 v acc.length (flat acc)
  below : Below w.heap.size w wr

theorem box_cell {w : World} {g j : Nat} {cs : Array Value} {t : TypeId} {u : Value} (h : w.heap[g]? = some (.cells cs t (0, 0))) (hj : cs[j]? = some u) : w.cell? ⟨g, j, .none⟩ = some u := by
  unfold World.cell?
  rw [h]
  simpa using hj
theorem box_frozen {w : World} {g j : Nat} {cs : Array Value} {t : TypeId} (h : w.heap[g]? = some (.cells cs t (0, 0))) : w.frozen? ⟨g, j, .none⟩ = false := by
  unfold World.frozen?
  rw [h]
  simp
theorem zag_nat (u : Nat) : Zig.zag (u : Int) = zagN u := by unfold Zig.zag zagN; split <;> split <;> omega
variable {w wr w1 : World} {t : Int} {s : Nat} {x : List UInt8} {v : Value} {acc : List Lab}
theorem GSt.lt (h : GSt w t s x v acc wr) : w.heap.size + 1 + 1 < wr.heap.size := (Array.getElem?_eq_some_iff.1 h.b2).1
theorem GSt.call (h : GSt w t s x v acc wr) (hb : Below wr.heap.size wr w1) : GSt w t s x v acc w1 :=
  ⟨(hb.block _ (by have := h.lt; omega)).trans h.b0, (hb.block _ (by have := h.lt; omega)).trans h.b1, (hb.block _ h.lt).trans h.b2, own_keepN h.own hb, h.below.trans (hb.mono h.below.size)⟩
theorem GSt.set0 (h : GSt w t s x v acc wr) (t' : Int) : GSt w t' s x v acc (wr.setCell ⟨w.heap.size + 1 + 1, 0, .none⟩ (.int .i64 t')) :=
  ⟨(Below.heap_setCell _ _ _ _ (by simp <;> omega)).trans h.b0, (Below.heap_setCell _ _ _ _ (by simp <;> omega)).trans h.b1, (heap_setCell_same _ _ _ _ _ _ h.b2).trans rfl, ownsRow_setCell_below h.own (by simp <;> omega) _, h.below.setCell (by simp <;> omega) _⟩
theorem GSt.set1 (h : GSt w t s x v acc wr) (s' : Nat) : GSt w t s' x v acc (wr.setCell ⟨w.heap.size + 1 + 1, 1, .none⟩ (.int .u64 (s' : Int))) :=
  ⟨(Below.heap_setCell _ _ _ _ (by simp <;> omega)).trans h.b0, (Below.heap_setCell _ _ _ _ (by simp <;> omega)).trans h.b1, (heap_setCell_same _ _ _ _ _ _ h.b2).trans rfl, ownsRow_setCell_below h.own (by simp <;> omega) _, h.below.setCell (by simp <;> omega) _⟩
theorem GSt.set3 (h : GSt w t s x v acc wr) (x' : List UInt8) : GSt w t s x' v acc (wr.setCell ⟨w.heap.size + 1 + 1, 3, .none⟩ (.string ⟨x'.toArray⟩)) :=
  ⟨(Below.heap_setCell _ _ _ _ (by simp <;> omega)).trans h.b0, (Below.heap_setCell _ _ _ _ (by simp <;> omega)).trans h.b1, (heap_setCell_same _ _ _ _ _ _ h.b2).trans rfl, ownsRow_setCell_below h.own (by simp <;> omega) _, h.below.setCell (by simp <;> omega) _⟩
theorem GSt.setN (h : GSt w t s x v acc wr) {p : Addr} (hp : w.heap.size + 1 + 1 < p.block) (hne : v.ownBlock ≠ some p.block) (u : Value) : GSt w t s x v acc (wr.setCell p u) :=
  ⟨(Below.heap_setCell _ _ _ _ (by omega)).trans h.b0, (Below.heap_setCell _ _ _ _ (by omega)).trans h.b1, (Below.heap_setCell _ _ _ _ (by omega)).trans h.b2, ownsRow_setCell_other h.own hne u, h.below.setCell (by omega) _⟩
theorem GSt.own_lt (h : GSt w t s x v acc wr) {k : Nat} (hk : v.ownBlock = some k) : w.heap.size + 3 ≤ k ∧ k < wr.heap.size := h.own.lt k hk
/-- A round's own box behind all that. -/
theorem GSt.box (h : GSt w t s x v acc wr) : ∀ w2, Below (wr.alloc (.cells #[.string ⟨#[]⟩, .string ⟨#[]⟩] 46)).heap.size (wr.alloc (.cells #[.string ⟨#[]⟩, .string ⟨#[]⟩] 46)) w2 →
    (w2.cell? ⟨wr.heap.size, 0, .none⟩ = some (.string ⟨#[]⟩) ∧ w2.cell? ⟨wr.heap.size, 1, .none⟩ = some (.string ⟨#[]⟩) ∧ w2.frozen? ⟨wr.heap.size, 0, .none⟩ = false ∧ w2.frozen? ⟨wr.heap.size, 1, .none⟩ = false) ∧
    wr.heap.size < w2.heap.size ∧ Hid (∀ a b, GSt w t s x v acc ((w2.setCell ⟨wr.heap.size, 0, .none⟩ a).setCell ⟨wr.heap.size, 1, .none⟩ b)) := fun w2 hb2 => by
  have hz : wr.heap.size < (wr.alloc (.cells #[.string ⟨#[]⟩, .string ⟨#[]⟩] 46)).heap.size := by simp
  have hbox : w2.heap[wr.heap.size]? = some (.cells #[.string ⟨#[]⟩, .string ⟨#[]⟩] 46 (0, 0)) := (hb2.block wr.heap.size hz).trans (heap_alloc_new wr _)
  have h2 : GSt w t s x v acc w2 := (h.call ((Below.refl _ wr).alloc (Nat.le_refl _) _)).call hb2
  have hl := h.lt
  have hne : v.ownBlock ≠ some wr.heap.size := fun e => by have := (h.own_lt e).2; omega
  exact ⟨⟨box_cell hbox rfl, box_cell hbox rfl, box_frozen hbox, box_frozen hbox⟩, Nat.lt_of_lt_of_le hz hb2.size, Lib.hid fun a b => (h2.setN hl hne a).setN hl hne b⟩
theorem GSt.app (h : GSt w t s x v acc wr) {y : Lab} {v' : Value} (ho : w1.ownsRow (w.heap.size + 3) 46 2 v' (acc.length + 1) (flat acc ++ [.string ⟨y.1.toArray⟩, .string ⟨y.2.toArray⟩])) (hg : wr.grownBy w1 v.ownBlock) :
    (w1.cell? ⟨w.heap.size + 1 + 1, 2, .none⟩ = some v ∧ w1.frozen? ⟨w.heap.size + 1 + 1, 2, .none⟩ = false) ∧ Hid (GSt w t s x v' (acc ++ [y]) (w1.setCell ⟨w.heap.size + 1 + 1, 2, .none⟩ v')) := by
  have hl := h.lt
  have hn : ∀ k, k < w.heap.size + 3 → v.ownBlock ≠ some k := fun k hk e => by have := (h.own_lt e).1; omega
  have hb2 := (hg.block _ hl (fun e => hn _ (by omega) e.symm)).trans h.b2
  refine ⟨⟨box_cell hb2 rfl, box_frozen hb2⟩, Lib.hid ⟨(Below.heap_setCell _ _ _ _ (by simp <;> omega)).trans ((hg.block _ (by omega) (fun e => hn _ (by omega) e.symm)).trans h.b0), (Below.heap_setCell _ _ _ _ (by simp <;> omega)).trans ((hg.block _ (by omega) (fun e => hn _ (by omega) e.symm)).trans h.b1), (heap_setCell_same _ _ _ _ _ _ hb2).trans rfl, ownsRow_setCell_below ?_ (by simp) _, (h.below.grown hg (by omega) (fun k hk => by have := (h.own_lt hk).1; omega)).setCell (by simp <;> omega) _⟩⟩
  rw [flat_append, flat_one, List.length_append]
  exact ho
theorem GSt.facts (h : GSt w t s x v acc wr) :
    (wr.cell? ⟨w.heap.size, 0, .none⟩ = some (.int .i64 0) ∧ wr.cell? ⟨w.heap.size, 1, .none⟩ = some (.int .u64 0) ∧ wr.cell? ⟨w.heap.size, 2, .none⟩ = some (.slice .none 0 0) ∧ wr.cell? ⟨w.heap.size, 3, .none⟩ = some (.string ⟨#[]⟩)) ∧
    (wr.frozen? ⟨w.heap.size, 0, .none⟩ = false ∧ wr.frozen? ⟨w.heap.size, 1, .none⟩ = false ∧ wr.frozen? ⟨w.heap.size, 2, .none⟩ = false ∧ wr.frozen? ⟨w.heap.size, 3, .none⟩ = false) ∧
    (wr.cell? ⟨w.heap.size + 1, 0, .none⟩ = some (.int .i64 0) ∧ wr.cell? ⟨w.heap.size + 1, 1, .none⟩ = some (.int .u64 0) ∧ wr.cell? ⟨w.heap.size + 1, 2, .none⟩ = some (.slice .none 0 0) ∧ wr.cell? ⟨w.heap.size + 1, 3, .none⟩ = some (.string ⟨#[]⟩)) :=
  ⟨⟨box_cell h.b0 rfl, box_cell h.b0 rfl, box_cell h.b0 rfl, box_cell h.b0 rfl⟩, ⟨box_frozen h.b0, box_frozen h.b0, box_frozen h.b0, box_frozen h.b0⟩, ⟨box_cell h.b1 rfl, box_cell h.b1 rfl, box_cell h.b1 rfl, box_cell h.b1 rfl⟩⟩
theorem GSt.x_facts (h : GSt w t s x v acc wr) :
    (wr.cell? ⟨w.heap.size + 1 + 1, 0, .none⟩ = some (.int .i64 t) ∧ wr.cell? ⟨w.heap.size + 1 + 1, 1, .none⟩ = some (.int .u64 (s : Int)) ∧ wr.cell? ⟨w.heap.size + 1 + 1, 2, .none⟩ = some v ∧ wr.cell? ⟨w.heap.size + 1 + 1, 3, .none⟩ = some (.string ⟨x.toArray⟩)) ∧
    (wr.frozen? ⟨w.heap.size + 1 + 1, 0, .none⟩ = false ∧ wr.frozen? ⟨w.heap.size + 1 + 1, 1, .none⟩ = false ∧ wr.frozen? ⟨w.heap.size + 1 + 1, 2, .none⟩ = false ∧ wr.frozen? ⟨w.heap.size + 1 + 1, 3, .none⟩ = false) :=
  ⟨⟨box_cell h.b2 rfl, box_cell h.b2 rfl, box_cell h.b2 rfl, box_cell h.b2 rfl⟩, ⟨box_frozen h.b2, box_frozen h.b2, box_frozen h.b2, box_frozen h.b2⟩⟩
def GRel (w : World) (b : List UInt8) (R : Nat × Rec × List UInt8) (u sq n : Nat) (va vi : Value) (wr : World) : Prop :=
  ∃ (q k : Nat) (acc : List Lab) (v : Value), va = .int .i64 (q : Int) ∧ vi = .int .i64 (k : Int) ∧ q ≤ b.length ∧ k ≤ n ∧ Hid (acc.length = k) ∧ Hid (GSt w (zagN u) sq [] v acc wr) ∧ Hid (getC u sq (after acc (labs (n - k) (b.drop q))) = R)
theorem getC_err (u sq : Nat) {e : Nat} (h : e ≠ 0) : getC u sq (e, [], []) = (e, RcSpec.none, []) := by
  unfold getC
  rw [if_pos h]
theorem getC_ok (u sq : Nat) (l : List Lab) (r : List UInt8) : getC u sq (0, l, r) = getD u sq l r := rfl
/-- The world behind the three boxes. -/
def W3 (w : World) : World := ((w.alloc (.cells #[.int .i64 0, .int .u64 0, .slice .none 0 0, .string ⟨#[]⟩] 33)).alloc (.cells #[.int .i64 0, .int .u64 0, .slice .none 0 0, .string ⟨#[]⟩] 33)).alloc (.cells #[.int .i64 0, .int .u64 0, .slice .none 0 0, .string ⟨#[]⟩] 33)
theorem gst_start (w : World) : GSt w 0 0 [] (.slice .none 0 0) [] (W3 w) := by
  unfold W3
  refine ⟨?_, ?_, ?_, World.ownsRow_nil .., (((Below.refl _ w).alloc (Nat.le_refl _) _).alloc (by simp) _).alloc (by simp; omega) _⟩
  · exact ((((Below.refl _ _).alloc (Nat.le_refl _) _).alloc (by simp) _).block _ (by simp)).trans (heap_alloc_new w _)
  · exact (((Below.refl _ _).alloc (Nat.le_refl _) _).block _ (by simp)).trans (by simpa using heap_alloc_new (w.alloc _) _)
  · simpa using heap_alloc_new ((w.alloc _).alloc _) _
theorem err_post {q : Nat} {R : Nat × Rec × List UInt8} {b : List UInt8} {w' : World} (hR : R = (q, RcSpec.none, [])) (hq : q ≠ 0) (hb : Below w.heap.size w w') : GPost R b w (.returned (.tuple #[.agg #[.int .i64 0, .int .u64 0, .slice .none 0 0, .string ⟨#[]⟩], .int .i64 0, .int .i64 (q : Int)])) w' := by
  subst hR
  refine ⟨(.none, 0, 0), 0, ?_, fun h => absurd h hq, World.ownsRow_nil .., hb⟩
  rw [if_neg (show ¬ ((q, RcSpec.none, ([] : List UInt8)) : Nat × Rec × List UInt8).1 = 0 from hq)]
  rfl

theorem ok_post {A1 : Option Addr} {c1 q1 u sq : Nat} {line : List UInt8} {acc : List Lab} {b : List UInt8} {w8 : World} (hq : q1 ≤ b.length) (h : GSt w (zagN u) sq line (.slice A1 acc.length c1) acc w8) :
    GPost (0, ⟨zagN u, sq, acc, line⟩, b.drop q1) b w (.returned (.tuple #[.agg #[.int .i64 (zagN u), .int .u64 (sq : Int), .slice A1 acc.length c1, .string ⟨line.toArray⟩], .int .i64 (q1 : Int), .int .i64 0])) ((((w8.setCell ⟨w.heap.size, 0, .none⟩ (.int .i64 (zagN u))).setCell ⟨w.heap.size, 1, .none⟩ (.int .u64 (sq : Int))).setCell ⟨w.heap.size, 2, .none⟩ (.slice A1 acc.length c1)).setCell ⟨w.heap.size, 3, .none⟩ (.string ⟨line.toArray⟩)) := by
  refine ⟨(A1, acc.length, c1), q1, rfl, fun _ => ⟨hq, rfl⟩, ?_, (((h.below.setCell (Nat.le_refl _) _).setCell (Nat.le_refl _) _).setCell (Nat.le_refl _) _).setCell (Nat.le_refl _) _⟩
  have h0 := ownsRow_setCell_below (ownsRow_setCell_below (ownsRow_setCell_below (ownsRow_setCell_below h.own (a := ⟨w.heap.size, 0, .none⟩) (by simp) (.int .i64 (zagN u))) (a := ⟨w.heap.size, 1, .none⟩) (by simp) (.int .u64 (sq : Int))) (a := ⟨w.heap.size, 2, .none⟩) (by simp) (.slice A1 acc.length c1)) (a := ⟨w.heap.size, 3, .none⟩) (by simp) (.string ⟨line.toArray⟩)
  exact ⟨h0.1, h0.2.imp id fun ⟨g, cap, cur, e1, hg, r⟩ => ⟨g, cap, cur, e1, by omega, r⟩⟩
theorem results_cell3 {fn : Func} {p u v : Tmp} {ty : TypeId} (h : fn.results = #[.cell p ty, .tmp u, .tmp v]) (tmps : Array Value) (P : Program) (w : World) :
    (results fn tmps).run P w =
      ((asAddr (tmps.getD p undef)).run P w).andThen fun a w₁ => ((loadVar ty a).run P w₁).andThen fun x w₂ => .ok (.tuple #[x, tmps.getD u undef, tmps.getD v undef]) w₂ := by
  simp only [results, h]
  simp [Sem.run_bind, Result.andThen]

set_option maxHeartbeats 6400000 in
set_option maxRecDepth 100000 in
theorem rget_any (w : World) (b : List UInt8) (A : Option Addr) (c p : Nat) (hr : Rd w w.heap.size A (b.map B8)) (hc : b.length ≤ c) (hm : c ≤ maxLen) (hp : p ≤ b.length) :
    Calls Try.prog 18 #[.slice A b.length c, .int .i64 (p : Int)] w (GPost (RcSpec.get (b.drop p)) b w) := by
  obtain ⟨i1, gi, gz0, gz1, gz2⟩ := info_parts info_label
  obtain ⟨R, hR⟩ : ∃ R, RcSpec.get (b.drop p) = R := ⟨_, rfl⟩
  rw [hR]
  have HR := Lib.hid hR
  clear hR
  have HRD := Lib.hid hr
  have HST := Lib.hid (gst_start w)
  obtain ⟨p1, h11, h12, h13, h14, hcall⟩ := rnum_any (W3 w) b A c w.heap.size p (hr.below HST.out.below) hc hm hp
  have h0 := HR.out
  rw [get_eq, h13] at h0
  have HC := Lib.hid hcall
  unfold W3 at HC
  generalize num (b.drop p) = N at h0 h14 HC
  obtain ⟨e1, u, l1⟩ := N
  simp only at h0 h14 HC
  clear hcall h13 HR hr
  by_cases he : e1 = 0
  · subst he
    rw [if_neg (by decide)] at h0
    rw [if_pos rfl] at HC
    have HG1 := Lib.hid h0
    have HZG := fun w => Lib.hid (Zig.refzag_any u w (by omega) (by omega))
    rw [zag_nat u] at HZG
    clear h0
    go_enter Try.func18, Try.ntmps18
    go_wp2_with fail
    refine HC.out.mono ?_
    rintro e w1 ⟨rfl, hw1⟩
    have HS1 : Hid (GSt w 0 0 [] (.slice .none 0 0) [] w1) := Lib.hid (hw1 ▸ HST.out)
    clear hw1 HC HST
    obtain ⟨⟨x0, x1, x2, x3⟩, ⟨y0, y1, y2, y3⟩⟩ := HS1.out.x_facts
    go_wp2_with fail
    refine (HZG _).out.mono ?_
    rintro e w2 ⟨rfl, rfl⟩
    have HS2 := Lib.hid (HS1.out.set0 (zagN u))
    obtain ⟨p2, h21, h22, h23, h24, hcall⟩ := rnum_any (w1.setCell ⟨w.heap.size + 1 + 1, 0, .none⟩ (.int .i64 (zagN u))) b A c w.heap.size p1 (HRD.out.below HS2.out.below) hc hm h12
    have h0 := HG1.out
    unfold getA at h0
    rw [h23] at h0
    have HC := Lib.hid hcall
    generalize num (b.drop p1) = N at h0 h24 HC
    obtain ⟨e2, sq, l2⟩ := N
    simp only at h0 h24 HC
    clear hcall h23 HZG HG1 HS1
    by_cases he : e2 = 0
    · subst he
      rw [if_neg (by decide)] at h0
      rw [if_pos rfl] at HC
      have HG2 := Lib.hid h0
      clear h0
      go_wp2_with fail
      refine HC.out.mono ?_
      rintro e w3 ⟨rfl, hw3⟩
      have HS3 : Hid (GSt w (zagN u) 0 [] (.slice .none 0 0) [] w3) := Lib.hid (hw3 ▸ HS2.out)
      clear hw3 HC HS2 x0 x1 x2 x3 y0 y1 y2 y3
      obtain ⟨⟨x0, x1, x2, x3⟩, ⟨y0, y1, y2, y3⟩⟩ := HS3.out.x_facts
      have HS4 := Lib.hid (HS3.out.set1 sq)
      obtain ⟨p3, h31, h32, h33, h34, hcall⟩ := rnum_any (w3.setCell ⟨w.heap.size + 1 + 1, 1, .none⟩ (.int .u64 (sq : Int))) b A c w.heap.size p2 (HRD.out.below HS4.out.below) hc hm h22
      have h0 := HG2.out
      unfold getB at h0
      rw [h33] at h0
      have HC := Lib.hid hcall
      generalize num (b.drop p2) = N at h0 h34 HC
      obtain ⟨e3, n, l3⟩ := N
      simp only at h0 h34 HC
      clear hcall h33 HG2 HS3
      by_cases he : e3 = 0
      · subst he
        rw [if_neg (by decide)] at h0
        rw [if_pos rfl] at HC
        by_cases hn : 16 < n
        · rw [if_pos hn] at h0
          have HE := Lib.hid h0
          have j : (16 : Int) < (n : Int) := by omega
          clear h0 hn
          go_wp2_with fail
          refine HC.out.mono ?_
          rintro e w5 ⟨rfl, hw5⟩
          have HS5 : Hid (GSt w (zagN u) sq [] (.slice .none 0 0) [] w5) := Lib.hid (hw5 ▸ HS4.out)
          clear hw5 HC HS4 x0 x1 x2 x3 y0 y1 y2 y3
          obtain ⟨⟨a0, a1, a2, a3⟩, ⟨z0, z1, z2, z3⟩, ⟨n0, n1, n2, n3⟩⟩ := HS5.out.facts
          go_wp2
          (try simp only [Exit.inBlock, Exit.then])
          refine bodyPost_ret (v := .tuple #[.agg #[.int .i64 0, .int .u64 0, .slice .none 0 0, .string ⟨#[]⟩], .int .i64 0, .int .i64 3]) ?_ rfl (err_post HE.out.symm (by decide) ((((HS5.out.below.setCell (Nat.le_refl _) _).setCell (Nat.le_refl _) _).setCell (Nat.le_refl _) _).setCell (Nat.le_refl _) _))
          rw [results_cell3 rfl]
          go_simp
        · rw [if_neg hn] at h0
          have j : ¬ (16 : Int) < (n : Int) := by omega
          have HG3 : Hid (getC u sq (after [] (labs (n - 0) (b.drop p3))) = R) := Lib.hid (by rw [after_nil]; exact h0)
          have hn16 : n ≤ 16 := by omega
          have hwn : IntKind.i64.wrap (n : Int) = (n : Int) := by rw [IntKind.wrap_i64]; omega
          clear h0 hn
          go_wp2_with fail
          refine HC.out.mono ?_
          rintro e w5 ⟨rfl, hw5⟩
          have HS5 : Hid (GSt w (zagN u) sq [] (.slice .none 0 0) [] w5) := Lib.hid (hw5 ▸ HS4.out)
          clear hw5 HC HS4 x0 x1 x2 x3 y0 y1 y2 y3
          go_wp2
          go_loopw [1, 12] (fun va vi wr => GRel w b R u sq n va vi wr) (fun _ vi _ => n - (intOf vi).toNat)
          case atStart => exact ⟨p3, 0, [], _, rfl, rfl, h32, Nat.zero_le _, Lib.hid rfl, HS5, HG3⟩
          case round =>
            obtain ⟨q, k, acc, v, rfl, rfl, hq, hk, HAL, HS, HG⟩ := hrel
            clear HS5 HG3
            by_cases hlt : k < n
            · obtain ⟨m, hmk⟩ : ∃ m, n - k = m + 1 := ⟨n - k - 1, by omega⟩
              have HG4 : Hid (getC u sq (after acc (labs (m + 1) (b.drop q))) = R) := Lib.hid (by rw [← hmk]; exact HG.out)
              have HMK : Hid (m = n - (k + 1)) := Lib.hid (by omega)
              clear HG hmk
              have HSA := Lib.hid (HS.out.call ((Below.refl _ wr).alloc (Nat.le_refl _) (.cells #[.string ⟨#[]⟩, .string ⟨#[]⟩] 46)))
              obtain ⟨q1, g11, g12, g13, g14, hcall⟩ := rgettext_any (wr.alloc (.cells #[.string ⟨#[]⟩, .string ⟨#[]⟩] 46)) b A c w.heap.size q (HRD.out.below HSA.out.below) hc hm hq
              have HC := Lib.hid hcall
              clear hcall g14
              by_cases te : (txt (b.drop q)).1 = 0
              · have g15 := g13 te
                rw [te] at HC
                rw [if_pos rfl] at HC
                obtain ⟨nme, hnme⟩ : ∃ x, (txt (b.drop q)).2.1 = x := ⟨_, rfl⟩
                rw [hnme] at HC
                have HT1 := Lib.hid te
                have HT2 := Lib.hid hnme
                have HT3 := Lib.hid g15
                have HBX := Lib.hid HS.out.box
                clear te hnme g13 g15
                unfold S8 at HC
                go_wp2_with fail
                refine HC.out.mono ?_
                rintro e w6 ⟨rfl, hb6⟩
                have HB6 := Lib.hid hb6
                have HS6 := Lib.hid (HSA.out.call hb6)
                clear hb6 HC HSA
                obtain ⟨q2, g21, g22, g23, g24, hcall⟩ := rgettext_any w6 b A c w.heap.size q1 (HRD.out.below HS6.out.below) hc hm g12
                have HC := Lib.hid hcall
                clear hcall g24
                by_cases te : (txt (b.drop q1)).1 = 0
                · have g25 := g23 te
                  rw [te] at HC
                  rw [if_pos rfl] at HC
                  obtain ⟨val, hval⟩ : ∃ x, (txt (b.drop q1)).2.1 = x := ⟨_, rfl⟩
                  rw [hval] at HC
                  have HN : Hid (getC u sq (after (acc ++ [(nme, val)]) (labs (n - (k + 1)) (b.drop q2))) = R) := Lib.hid (by
                    have h := HG4.out
                    rw [after_ok acc m HT1.out (by rw [HT3.out]; exact te), HT2.out, HT3.out, hval, g25, HMK.out] at h
                    exact h)
                  clear te hval g23 g25 HG4 HMK HT1 HT2 HT3
                  unfold S8 at HC
                  go_wp2_with fail
                  refine HC.out.mono ?_
                  rintro e w7 ⟨rfl, hb7⟩
                  have HB7 : Hid (Below (wr.alloc (.cells #[.string ⟨#[]⟩, .string ⟨#[]⟩] 46)).heap.size (wr.alloc (.cells #[.string ⟨#[]⟩, .string ⟨#[]⟩] 46)) w7) := Lib.hid (HB6.out.trans (hb7.mono HB6.out.size))
                  obtain ⟨⟨k0, k1, z0, z1⟩, HSZ, HBB⟩ := HBX.out w7 HB7.out
                  have HSW := Lib.hid (HBB.out (.string ⟨nme.toArray⟩) (.string ⟨val.toArray⟩))
                  have hkx := HSW.out.x_facts.1.2.2.1
                  have HMD : Hid (Rd (((w7.setCell ⟨wr.heap.size, 0, .none⟩ (.string ⟨nme.toArray⟩)).setCell ⟨wr.heap.size, 1, .none⟩ (.string ⟨val.toArray⟩)).alloc (.cells #[.string ⟨nme.toArray⟩, .string ⟨val.toArray⟩] 46)) (w7.heap.size + 1) (some ⟨w7.heap.size, 0, .none⟩) [.string ⟨nme.toArray⟩, .string ⟨val.toArray⟩]) := Lib.hid (by
                    have h := Rd.made ((w7.setCell ⟨wr.heap.size, 0, .none⟩ (.string ⟨nme.toArray⟩)).setCell ⟨wr.heap.size, 1, .none⟩ (.string ⟨val.toArray⟩)) #[.string ⟨nme.toArray⟩, .string ⟨val.toArray⟩] 46
                    rwa [show ((w7.setCell ⟨wr.heap.size, 0, .none⟩ (.string ⟨nme.toArray⟩)).setCell ⟨wr.heap.size, 1, .none⟩ (.string ⟨val.toArray⟩)).heap.size = w7.heap.size by simp] at h)
                  clear hb7 HC HB6 HB7 HBX HBB HS6
                  have HAL1 : Hid (acc.length ≤ 16) := Lib.hid (by have := HAL.out; omega)
                  have HLT := Lib.hid HS.out.lt
                  go_wp2_with (at_builtin; refine wpList_append_rd _ rfl (.tmp 97) (.tmp 99) 31 rfl (w.heap.size + 3) 2 46 i1 (.agg #[.string ByteArray.empty, .string ByteArray.empty]) 32 Try.underlying31 gi gz0 gz1 gz2 rfl (by omega) _ _ _ rfl (HSW.out.own.alloc _) (w7.heap.size + 1) (some ⟨w7.heap.size, 0, .none⟩) 1 1 [.string ⟨nme.toArray⟩, .string ⟨val.toArray⟩] rfl rfl HMD.out ?f1 ?f2 ?f3 ?f4 ?_)
                  case f1 => intro u hu; simp at hu; rcases hu with rfl | rfl <;> rfl
                  case f2 => have := HAL1.out; unfold maxLen; omega
                  case f3 => have := HAL1.out; omega
                  case f4 => have := HLT.out; simp; omega
                  intro v' w8 hown8 hg8 _
                  obtain ⟨A9, c9, rfl⟩ : ∃ A9 c9, v' = .slice A9 (acc.length + 1) c9 := by
                    obtain ⟨A9, c9, h9, _⟩ := own_lb (l := acc ++ [(nme, val)]) (by rw [flat_append, flat_one, List.length_append]; exact hown8)
                    rw [List.length_append] at h9
                    exact ⟨A9, c9, h9⟩
                  obtain ⟨⟨kx, zx⟩, HS8⟩ := (HSW.out.call ((Below.refl _ _).alloc (Nat.le_refl _) (.cells #[.string ⟨nme.toArray⟩, .string ⟨val.toArray⟩] 46))).app (y := (nme, val)) hown8 hg8
                  clear hown8 hg8 HSW HMD hkx k0 k1 z0 z1
                  go_wp2
                  go_roundw
                  case rel => exact ⟨q2, k + 1, acc ++ [(nme, val)], _, rfl, by go_num, g22, by omega, Lib.hid (by rw [List.length_append, HAL.out]; rfl), HS8, HN⟩
                  case measure => simp [intOf]; omega
                · have HE : Hid (((txt (b.drop q1)).1, RcSpec.none, []) = R) := Lib.hid (by
                    have h := HG4.out
                    rw [after_e2 acc m HT1.out (by rw [HT3.out]; exact te), HT3.out, getC_err u sq te] at h
                    exact h)
                  obtain ⟨ee, hee⟩ : ∃ x, (txt (b.drop q1)).1 = x := ⟨_, rfl⟩
                  rw [hee] at HE HC te
                  rw [if_neg te] at HC
                  have j : ((ee : Int) != 0) = true := by simp [te]
                  clear g23 HG4 HMK HT1 HT2 HT3 hee HBX
                  unfold S8 at HC
                  go_wp2_with fail
                  refine HC.out.mono ?_
                  rintro e w7 ⟨rfl, hb7⟩
                  have HS7 := Lib.hid (HS6.out.call hb7)
                  clear hb7 HC HS6 HB6
                  obtain ⟨⟨a0, a1, a2, a3⟩, ⟨z0, z1, z2, z3⟩, ⟨n0, n1, n2, n3⟩⟩ := HS7.out.facts
                  go_wp2
                  (try simp only [Exit.inBlock, Exit.then])
                  refine bodyPost_ret (v := .tuple #[.agg #[.int .i64 0, .int .u64 0, .slice .none 0 0, .string ⟨#[]⟩], .int .i64 0, .int .i64 (ee : Int)]) ?_ rfl (err_post HE.out.symm te ((((HS7.out.below.setCell (Nat.le_refl _) _).setCell (Nat.le_refl _) _).setCell (Nat.le_refl _) _).setCell (Nat.le_refl _) _))
                  rw [results_cell3 rfl]
                  go_simp
              · have HE : Hid (((txt (b.drop q)).1, RcSpec.none, []) = R) := Lib.hid (by
                  have h := HG4.out
                  rw [after_e1 acc m te, getC_err u sq te] at h
                  exact h)
                obtain ⟨ee, hee⟩ : ∃ x, (txt (b.drop q)).1 = x := ⟨_, rfl⟩
                rw [hee] at HE HC te
                rw [if_neg te] at HC
                have j : ((ee : Int) != 0) = true := by simp [te]
                clear g13 HG4 HMK hee
                unfold S8 at HC
                go_wp2_with fail
                refine HC.out.mono ?_
                rintro e w6 ⟨rfl, hb6⟩
                have HS6 := Lib.hid (HSA.out.call hb6)
                clear hb6 HC HSA
                obtain ⟨⟨a0, a1, a2, a3⟩, ⟨z0, z1, z2, z3⟩, ⟨n0, n1, n2, n3⟩⟩ := HS6.out.facts
                go_wp2
                (try simp only [Exit.inBlock, Exit.then])
                refine bodyPost_ret (v := .tuple #[.agg #[.int .i64 0, .int .u64 0, .slice .none 0 0, .string ⟨#[]⟩], .int .i64 0, .int .i64 (ee : Int)]) ?_ rfl (err_post HE.out.symm te ((((HS6.out.below.setCell (Nat.le_refl _) _).setCell (Nat.le_refl _) _).setCell (Nat.le_refl _) _).setCell (Nat.le_refl _) _))
                rw [results_cell3 rfl]
                go_simp
            · have hkn : k = n := by omega
              subst hkn
              have HD : Hid (getD u sq acc (b.drop q) = R) := Lib.hid (by
                have h := HG.out
                rw [Nat.sub_self, after_zero, getC_ok] at h
                exact h)
              clear HG hlt hk
              obtain ⟨q1, g11, g12, g13, g14, hcall⟩ := rgettext_any wr b A c w.heap.size q (HRD.out.below HS.out.below) hc hm hq
              have HC := Lib.hid hcall
              have h0 := HD.out
              unfold getD at h0
              clear hcall HD g14
              by_cases te : (txt (b.drop q)).1 = 0
              · rw [if_neg (by omega)] at h0
                have g15 := g13 te
                rw [g15] at h0
                rw [te] at HC
                rw [if_pos rfl] at HC
                obtain ⟨line, hline⟩ : ∃ x, (txt (b.drop q)).2.1 = x := ⟨_, rfl⟩
                rw [hline] at HC h0
                have HF := Lib.hid h0
                clear te hline g13 g15 h0
                unfold S8 at HC
                go_wp2_with fail
                refine HC.out.mono ?_
                rintro e w6 ⟨rfl, hb6⟩
                have HS6 := Lib.hid (HS.out.call hb6)
                clear hb6 HC HS
                obtain ⟨⟨x0, x1, x2, x3⟩, ⟨y0, y1, y2, y3⟩⟩ := HS6.out.x_facts
                have HS7 := Lib.hid (HS6.out.set3 line)
                obtain ⟨A1, c1, rfl, hlb⟩ := own_lb HS7.out.own
                have HCK := Lib.hid (rcheck_any _ (⟨zagN u, sq, acc, line⟩, A1, acc.length, c1) ⟨hlb, zag64 h14, h24⟩)
                unfold aggR slV S8 at HCK
                simp only at HCK
                have h0 := HF.out
                unfold getF at h0
                obtain ⟨ck, hck⟩ : ∃ x, check ⟨zagN u, sq, acc, line⟩ = x := ⟨_, rfl⟩
                rw [hck] at h0 HCK
                clear hck hlb HF HS6
                by_cases hc0 : ck = 0
                · subst hc0
                  rw [if_neg (by decide)] at h0
                  have HE := Lib.hid h0
                  clear h0
                  go_wp2_with fail
                  refine HCK.out.mono ?_
                  rintro e w8 ⟨rfl, hb8⟩
                  have HS8 := Lib.hid (HS7.out.call hb8)
                  clear hb8 HCK HS7 x0 x1 x2 x3 y0 y1 y2 y3
                  obtain ⟨⟨x0, x1, x2, x3⟩, _⟩ := HS8.out.x_facts
                  obtain ⟨⟨a0, a1, a2, a3⟩, ⟨z0, z1, z2, z3⟩, _⟩ := HS8.out.facts
                  go_wp2
                  (try simp only [Exit.inBlock, Exit.then])
                  refine bodyPost_ret (v := .tuple #[.agg #[.int .i64 (zagN u), .int .u64 (sq : Int), .slice A1 acc.length c1, .string ⟨line.toArray⟩], .int .i64 (q1 : Int), .int .i64 0]) ?_ rfl ?_
                  · rw [results_cell3 rfl]
                    go_simp
                  · rw [← HE.out]
                    exact ok_post g12 HS8.out
                · rw [if_pos hc0] at h0
                  have HE := Lib.hid h0
                  have j : ((ck : Int) != 0) = true := by simp [hc0]
                  clear h0
                  go_wp2_with fail
                  refine HCK.out.mono ?_
                  rintro e w8 ⟨rfl, hb8⟩
                  have HS8 := Lib.hid (HS7.out.call hb8)
                  clear hb8 HCK HS7 x0 x1 x2 x3 y0 y1 y2 y3
                  obtain ⟨⟨a0, a1, a2, a3⟩, ⟨z0, z1, z2, z3⟩, ⟨n0, n1, n2, n3⟩⟩ := HS8.out.facts
                  go_wp2
                  (try simp only [Exit.inBlock, Exit.then])
                  refine bodyPost_ret (v := .tuple #[.agg #[.int .i64 0, .int .u64 0, .slice .none 0 0, .string ⟨#[]⟩], .int .i64 0, .int .i64 (ck : Int)]) ?_ rfl (err_post HE.out.symm hc0 ((((HS8.out.below.setCell (Nat.le_refl _) _).setCell (Nat.le_refl _) _).setCell (Nat.le_refl _) _).setCell (Nat.le_refl _) _))
                  rw [results_cell3 rfl]
                  go_simp
              · rw [if_pos te] at h0
                have HE := Lib.hid h0
                obtain ⟨ee, hee⟩ : ∃ x, (txt (b.drop q)).1 = x := ⟨_, rfl⟩
                rw [hee] at HE HC te
                rw [if_neg te] at HC
                have j : ((ee : Int) != 0) = true := by simp [te]
                clear g13 hee h0
                unfold S8 at HC
                go_wp2_with fail
                refine HC.out.mono ?_
                rintro e w6 ⟨rfl, hb6⟩
                have HS6 := Lib.hid (HS.out.call hb6)
                clear hb6 HC HS
                obtain ⟨⟨a0, a1, a2, a3⟩, ⟨z0, z1, z2, z3⟩, ⟨n0, n1, n2, n3⟩⟩ := HS6.out.facts
                go_wp2
                (try simp only [Exit.inBlock, Exit.then])
                refine bodyPost_ret (v := .tuple #[.agg #[.int .i64 0, .int .u64 0, .slice .none 0 0, .string ⟨#[]⟩], .int .i64 0, .int .i64 (ee : Int)]) ?_ rfl (err_post HE.out.symm te ((((HS6.out.below.setCell (Nat.le_refl _) _).setCell (Nat.le_refl _) _).setCell (Nat.le_refl _) _).setCell (Nat.le_refl _) _))
                rw [results_cell3 rfl]
                go_simp
      · rw [if_pos he] at h0
        have HE := Lib.hid h0
        have j : ((e3 : Int) != 0) = true := by simp [he]
        simp only [if_neg he] at HC
        clear h0
        go_wp2_with fail
        refine HC.out.mono ?_
        rintro e w5 ⟨rfl, hw5⟩
        have HS5 : Hid (GSt w (zagN u) sq [] (.slice .none 0 0) [] w5) := Lib.hid (hw5 ▸ HS4.out)
        clear hw5 HC HS4 x0 x1 x2 x3 y0 y1 y2 y3
        obtain ⟨⟨a0, a1, a2, a3⟩, ⟨z0, z1, z2, z3⟩, ⟨n0, n1, n2, n3⟩⟩ := HS5.out.facts
        go_wp2
        (try simp only [Exit.inBlock, Exit.then])
        refine bodyPost_ret (v := .tuple #[.agg #[.int .i64 0, .int .u64 0, .slice .none 0 0, .string ⟨#[]⟩], .int .i64 0, .int .i64 (e3 : Int)]) ?_ rfl (err_post HE.out.symm he ((((HS5.out.below.setCell (Nat.le_refl _) _).setCell (Nat.le_refl _) _).setCell (Nat.le_refl _) _).setCell (Nat.le_refl _) _))
        rw [results_cell3 rfl]
        go_simp
    · rw [if_pos he] at h0
      have HE := Lib.hid h0
      have j : ((e2 : Int) != 0) = true := by simp [he]
      simp only [if_neg he] at HC
      clear h0
      go_wp2_with fail
      refine HC.out.mono ?_
      rintro e w3 ⟨rfl, hw3⟩
      have HS3 : Hid (GSt w (zagN u) 0 [] (.slice .none 0 0) [] w3) := Lib.hid (hw3 ▸ HS2.out)
      clear hw3 HC HS2 x0 x1 x2 x3 y0 y1 y2 y3
      obtain ⟨⟨a0, a1, a2, a3⟩, ⟨z0, z1, z2, z3⟩, ⟨n0, n1, n2, n3⟩⟩ := HS3.out.facts
      go_wp2
      (try simp only [Exit.inBlock, Exit.then])
      refine bodyPost_ret (v := .tuple #[.agg #[.int .i64 0, .int .u64 0, .slice .none 0 0, .string ⟨#[]⟩], .int .i64 0, .int .i64 (e2 : Int)]) ?_ rfl (err_post HE.out.symm he ((((HS3.out.below.setCell (Nat.le_refl _) _).setCell (Nat.le_refl _) _).setCell (Nat.le_refl _) _).setCell (Nat.le_refl _) _))
      rw [results_cell3 rfl]
      go_simp
  · rw [if_pos he] at h0
    have HE := Lib.hid h0
    have j : ((e1 : Int) != 0) = true := by simp [he]
    simp only [if_neg he] at HC
    clear h0
    go_enter Try.func18, Try.ntmps18
    go_wp2_with fail
    refine HC.out.mono ?_
    rintro e w1 ⟨rfl, hw1⟩
    have HS1 : Hid (GSt w 0 0 [] (.slice .none 0 0) [] w1) := Lib.hid (hw1 ▸ HST.out)
    clear hw1 HC HST
    obtain ⟨⟨a0, a1, a2, a3⟩, ⟨z0, z1, z2, z3⟩, ⟨n0, n1, n2, n3⟩⟩ := HS1.out.facts
    go_wp2
    (try simp only [Exit.inBlock, Exit.then])
    refine bodyPost_ret (v := .tuple #[.agg #[.int .i64 0, .int .u64 0, .slice .none 0 0, .string ⟨#[]⟩], .int .i64 0, .int .i64 (e1 : Int)]) ?_ rfl (err_post HE.out.symm he ((((HS1.out.below.setCell (Nat.le_refl _) _).setCell (Nat.le_refl _) _).setCell (Nat.le_refl _) _).setCell (Nat.le_refl _) _))
    rw [results_cell3 rfl]
    go_simp
end Go.Proofs.Ytahbaifbihpppaa.RcRefRd
