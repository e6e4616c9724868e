/- Lists of records in memory: four cells each, the labels in rows of their own. Of no program but for its types. No conditions. -/
import Derived.Test.YtahbaifbihpppaaSpecs
import Derived.Test.YtahbaifbihpppaaLbMem
namespace Go.Proofs.Ytahbaifbihpppaa.RcMem
open Go Go.RowKit Words AppN Less LbSpec LbText LbMem RcSpec RcAll

/-- A slice: its address, its length, its capacity. -/
abbrev Sl := Option Addr × Nat × Nat
def slV (s : Sl) : Value := .slice s.1 s.2.1 s.2.2
/-- A record, and where its labels lie. -/
abbrev RM := Rec × Sl
def rcells (m : RM) : List Value := [.int .i64 m.1.time, .int .u64 (m.1.seq : Int), slV m.2, S8 m.1.line]
def aggR (m : RM) : Value := .agg #[.int .i64 m.1.time, .int .u64 (m.1.seq : Int), slV m.2, S8 m.1.line]
def flatR (l : List RM) : List Value := l.flatMap rcells
theorem flatR_cons (x : RM) (l : List RM) : flatR (x :: l) = .int .i64 x.1.time :: .int .u64 (x.1.seq : Int) :: slV x.2 :: S8 x.1.line :: flatR l := by simp [flatR, rcells]
theorem flatR_append (l m : List RM) : flatR (l ++ m) = flatR l ++ flatR m := by simp [flatR]
theorem flatR_one (x : RM) : flatR [x] = rcells x := by simp [flatR]
theorem flatR_len : ∀ l : List RM, (flatR l).length = l.length * 4
  | [] => rfl
  | x :: l => by rw [flatR_cons, List.length_cons, List.length_cons, List.length_cons, List.length_cons, flatR_len l, List.length_cons]; omega
theorem flatR_take : ∀ (l : List RM) (k : Nat), (flatR l).take (k * 4) = flatR (l.take k)
  | [], k => by simp [flatR]
  | x :: l, 0 => by simp [flatR]
  | x :: l, k + 1 => by
    rw [show (k + 1) * 4 = k * 4 + 1 + 1 + 1 + 1 by omega, flatR_cons, List.take_succ_cons, List.take_succ_cons, List.take_succ_cons, List.take_succ_cons, flatR_take l k, List.take_succ_cons, flatR_cons]
theorem flatR_drop : ∀ (l : List RM) (k : Nat), (flatR l).drop (k * 4) = flatR (l.drop k)
  | [], k => by simp [flatR]
  | x :: l, 0 => by simp
  | x :: l, k + 1 => by
    rw [show (k + 1) * 4 = k * 4 + 1 + 1 + 1 + 1 by omega, flatR_cons, List.drop_succ_cons, List.drop_succ_cons, List.drop_succ_cons, List.drop_succ_cons, flatR_drop l k, List.drop_succ_cons]
theorem flatR_at : ∀ {l : List RM} {k : Nat} (h : k < l.length), (flatR l)[k * 4]? = some (.int .i64 (l[k]).1.time) ∧ (flatR l)[k * 4 + 1]? = some (.int .u64 ((l[k]).1.seq : Int)) ∧ (flatR l)[k * 4 + 2]? = some (slV (l[k]).2) ∧ (flatR l)[k * 4 + 3]? = some (S8 (l[k]).1.line)
  | x :: l, 0, _ => by simp [flatR, rcells]
  | x :: l, k + 1, h => by
    have ih := flatR_at (l := l) (k := k) (by simpa using h)
    rw [show (k + 1) * 4 = k * 4 + 1 + 1 + 1 + 1 by omega, flatR_cons]
    simpa using ih
theorem rcells_ones (m : RM) : ∀ u ∈ rcells m, u.oneCell' = true := by
  intro u hu
  unfold rcells at hu
  simp at hu
  rcases hu with rfl | rfl | rfl | rfl <;> rfl
theorem flatR_ones (l : List RM) : ∀ u ∈ flatR l, u.oneCell' = true := by
  intro u hu
  obtain ⟨x, _, hx⟩ := List.mem_flatMap.1 hu
  exact rcells_ones x u hx
theorem cellsR {w : World} {b off : Nat} {l : List RM} (hc : ∀ j u, (flatR l)[j]? = some u → w.cell? ⟨b, off + j, none⟩ = some u) {k : Nat} (hk : k < l.length) :
    w.cell? ⟨b, off + k * 4, none⟩ = some (.int .i64 (l[k]).1.time) ∧ w.cell? ⟨b, off + k * 4 + 1, none⟩ = some (.int .u64 ((l[k]).1.seq : Int)) ∧ w.cell? ⟨b, off + k * 4 + 2, none⟩ = some (slV (l[k]).2) ∧ w.cell? ⟨b, off + k * 4 + 3, none⟩ = some (.string ⟨(l[k]).1.line.toArray⟩) := by
  obtain ⟨h0, h1, h2, h3⟩ := flatR_at hk
  refine ⟨hc _ _ h0, ?_, ?_, ?_⟩
  · rw [Nat.add_assoc]; exact hc _ _ h1
  · rw [Nat.add_assoc]; exact hc _ _ h2
  · rw [Nat.add_assoc]; exact hc _ _ h3
theorem info_record : (Try.prog.info? 33).map (fun i => (i.zero, i.size, i.bytes)) = some (some (.agg #[.int .i64 0, .int .u64 0, .slice none 0 0, .string ByteArray.empty]), 4, 56) := by kernel_rfl

/-- A record's labels lie where its cell says; its numbers are of their kinds. -/
structure Okm (w : World) (m : RM) : Prop where
  labs : Lb w m.2.1 m.2.2.1 m.2.2.2 m.1.labels
  fits : Fits m.1
theorem Okm.below {w w' : World} {m : RM} (h : Okm w m) (hb : Below w.heap.size w w') : Okm w' m :=
  ⟨⟨h.labs.1, h.labs.2.1, h.labs.2.2.1, (h.labs.2.2.2.below hb).more hb.size⟩, h.fits⟩
/-- A slice of records at A reads as ms. -/
structure Rl (w : World) (A : Option Addr) (n c : Nat) (ms : List RM) : Prop where
  len : n = ms.length
  le : n ≤ c
  cap : c ≤ maxLen
  rd : Rd w w.heap.size A (flatR ms)
  each : ∀ m ∈ ms, Okm w m
theorem Rl.below {w w' : World} {A : Option Addr} {n c : Nat} {ms : List RM} (h : Rl w A n c ms) (hb : Below w.heap.size w w') : Rl w' A n c ms :=
  ⟨h.len, h.le, h.cap, (h.rd.below hb).more hb.size, fun m hm => (h.each m hm).below hb⟩
/-- The records alone. -/
def recsOf (ms : List RM) : List Rec := ms.map Prod.fst
end Go.Proofs.Ytahbaifbihpppaa.RcMem
