/- Segments in memory: four cells each (for seats that have no manifest). Of no program but for its types. No conditions. -/
import Derived.Test.YtepbnclpiojoaaaAppendN
import Derived.Deep.OwnRows
import Derived.Test.YtepbnclpiojoaaaRows
namespace Go.Proofs.Ytepbnclpiojoaaa.SgMem
open Go Go.RowKit Words AppN

/-- A segment: its number, how many records, their least and greatest time. -/
structure Sg where
  id : Int
  count : Int
  least : Int
  most : Int
deriving DecidableEq
def In64 (n : Int) : Prop := -9223372036854775808 ≤ n ∧ n ≤ 9223372036854775807
/-- Its numbers are of their kinds. -/
structure SgOk (s : Sg) : Prop where
  id : In64 s.id
  count : In64 s.count
  least : In64 s.least
  most : In64 s.most
/-- A slice: its address, its length, its capacity. -/
abbrev Sl := Option Addr × Nat × Nat
def slV (s : Sl) : Value := .slice s.1 s.2.1 s.2.2
def scells (s : Sg) : List Value := [.int .i64 s.id, .int .i64 s.count, .int .i64 s.least, .int .i64 s.most]
def flatS (l : List Sg) : List Value := l.flatMap scells
theorem flatS_cons (x : Sg) (l : List Sg) : flatS (x :: l) = .int .i64 x.id :: .int .i64 x.count :: .int .i64 x.least :: .int .i64 x.most :: flatS l := by simp [flatS, scells]
theorem flatS_append (l m : List Sg) : flatS (l ++ m) = flatS l ++ flatS m := by simp [flatS]
theorem flatS_one (x : Sg) : flatS [x] = scells x := by simp [flatS]
theorem flatS_len : ∀ l : List Sg, (flatS l).length = l.length * 4
  | [] => rfl
  | x :: l => by rw [flatS_cons, List.length_cons, List.length_cons, List.length_cons, List.length_cons, flatS_len l, List.length_cons]; omega
theorem flatS_take : ∀ (l : List Sg) (k : Nat), (flatS l).take (k * 4) = flatS (l.take k)
  | [], k => by simp [flatS]
  | x :: l, 0 => by simp [flatS]
  | x :: l, k + 1 => by
    rw [show (k + 1) * 4 = k * 4 + 1 + 1 + 1 + 1 by omega, flatS_cons, List.take_succ_cons, List.take_succ_cons, List.take_succ_cons, List.take_succ_cons, flatS_take l k, List.take_succ_cons, flatS_cons]
theorem flatS_drop : ∀ (l : List Sg) (k : Nat), (flatS l).drop (k * 4) = flatS (l.drop k)
  | [], k => by simp [flatS]
  | x :: l, 0 => by simp
  | x :: l, k + 1 => by
    rw [show (k + 1) * 4 = k * 4 + 1 + 1 + 1 + 1 by omega, flatS_cons, List.drop_succ_cons, List.drop_succ_cons, List.drop_succ_cons, List.drop_succ_cons, flatS_drop l k, List.drop_succ_cons]
theorem flatS_at : ∀ {l : List Sg} {k : Nat} (h : k < l.length), (flatS l)[k * 4]? = some (.int .i64 (l[k]).id) ∧ (flatS l)[k * 4 + 1]? = some (.int .i64 (l[k]).count) ∧ (flatS l)[k * 4 + 2]? = some (.int .i64 (l[k]).least) ∧ (flatS l)[k * 4 + 3]? = some (.int .i64 (l[k]).most)
  | x :: l, 0, _ => by simp [flatS, scells]
  | x :: l, k + 1, h => by
    have ih := flatS_at (l := l) (k := k) (by simpa using h)
    rw [show (k + 1) * 4 = k * 4 + 1 + 1 + 1 + 1 by omega, flatS_cons]
    simpa using ih
theorem scells_ones (s : Sg) : ∀ u ∈ scells s, u.oneCell' = true := by
  intro u hu
  unfold scells at hu
  simp at hu
  rcases hu with rfl | rfl | rfl | rfl <;> rfl
theorem flatS_ones (l : List Sg) : ∀ u ∈ flatS l, u.oneCell' = true := by
  intro u hu
  obtain ⟨x, _, hx⟩ := List.mem_flatMap.1 hu
  exact scells_ones x u hx
theorem flatS_inj : ∀ {l m : List Sg}, flatS l = flatS m → l = m
  | [], [], _ => rfl
  | [], y :: m, h => by simp [flatS, scells] at h
  | x :: l, [], h => by simp [flatS, scells] at h
  | x :: l, y :: m, h => by
    rw [flatS_cons, flatS_cons] at h
    simp only [List.cons.injEq, Value.int.injEq, true_and] at h
    obtain ⟨h1, h2, h3, h4, h5⟩ := h
    obtain ⟨_, _, _, _⟩ := x
    obtain ⟨_, _, _, _⟩ := y
    simp only at h1 h2 h3 h4
    rw [h1, h2, h3, h4, flatS_inj h5]
theorem cellsS {w : World} {b off : Nat} {l : List Sg} (hc : ∀ j u, (flatS l)[j]? = some u → w.cell? ⟨b, off + j, none⟩ = some u) {k : Nat} (hk : k < l.length) :
    w.cell? ⟨b, off + k * 4, none⟩ = some (.int .i64 (l[k]).id) ∧ w.cell? ⟨b, off + k * 4 + 1, none⟩ = some (.int .i64 (l[k]).count) ∧ w.cell? ⟨b, off + k * 4 + 2, none⟩ = some (.int .i64 (l[k]).least) ∧ w.cell? ⟨b, off + k * 4 + 3, none⟩ = some (.int .i64 (l[k]).most) := by
  obtain ⟨h0, h1, h2, h3⟩ := flatS_at hk
  refine ⟨hc _ _ h0, ?_, ?_, ?_⟩
  · rw [Nat.add_assoc]; exact hc _ _ h1
  · rw [Nat.add_assoc]; exact hc _ _ h2
  · rw [Nat.add_assoc]; exact hc _ _ h3
theorem info_seg : (Try.prog.info? 33).map (fun i => (i.zero, i.size, i.bytes)) = some (some (.agg #[.int .i64 0, .int .i64 0, .int .i64 0, .int .i64 0]), 4, 32) := by kernel_rfl

/-- A slice of segments at A reads as l. -/
structure Sgs (w : World) (s : Sl) (l : List Sg) : Prop where
  len : s.2.1 = l.length
  le : s.2.1 ≤ s.2.2
  cap : s.2.2 ≤ maxLen
  rd : Rd w w.heap.size s.1 (flatS l)
theorem Sgs.below {w w' : World} {s : Sl} {l : List Sg} (h : Sgs w s l) (hb : Below w.heap.size w w') : Sgs w' s l := ⟨h.len, h.le, h.cap, (h.rd.below hb).more hb.size⟩
theorem Sgs.nil_ (w : World) : Sgs w (none, 0, 0) [] := ⟨rfl, Nat.le_refl _, Nat.zero_le _, Rd.nil_⟩
theorem own_sgs {w : World} {base : Nat} {v : Value} {l : List Sg} (h : w.ownsRow base 33 4 v l.length (flatS l)) : ∃ A c, v = .slice A l.length c ∧ Sgs w (A, l.length, c) l ∧ (l = [] ∨ ∃ g, A = some ⟨g, 0, none⟩ ∧ base ≤ g) := by
  rcases h.2 with ⟨rfl, h2⟩ | ⟨g, cap, cur, rfl, hb, hg, h1, h2, h3, h4⟩
  · have hx : l = [] := List.eq_nil_of_length_eq_zero h2
    subst hx
    exact ⟨none, 0, rfl, Sgs.nil_ w, .inl rfl⟩
  · refine ⟨_, _, rfl, ⟨rfl, h1, h2, fun hn => ?_⟩, .inr ⟨g, rfl, hb⟩⟩
    refine ⟨g, 0, rfl, (Array.getElem?_eq_some_iff.1 hg).1, fun j u hu => ?_⟩
    have := h.cells (g := g) rfl j u hu
    rwa [add_off] at this
end Go.Proofs.Ytepbnclpiojoaaa.SgMem
