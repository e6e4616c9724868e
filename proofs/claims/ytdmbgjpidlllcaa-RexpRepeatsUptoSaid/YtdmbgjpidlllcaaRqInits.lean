/- A text's runes as the program's conversion lays them; the program's reader at its start. No conditions but those that the theorems name. · The contracts of the program's deferred closure: of a frame that panics with a fault, and of one that returns. No conditions but the two named results' cells. -/
import Derived.Test.YtdmbgjpidlllcaaRqAlls
import Derived.Test.YtdmbgjpidlllcaaRxParses
import Derived.Laws.IdiomStrings
import Derived.Test.YtdmbgjpidlllcaaRqMems
import Derived.Defers
import Derived.Recover
import Derived.Laws.Pointers
namespace Go.Proofs.Ytdmbgjpidlllcaa.RqInit
open Go Go.RowKit Words AppN Km Mo_ RxSpec RxTree RxEq RxMem RxText RxParse RqMem

theorem runesFrom_eq (s : ByteArray) : ∀ (b i : Nat) (acc : Array Value), (s.data.toList.drop i).length ≤ b → (Conv.runesFrom s b i acc).toList = acc.toList ++ ((UtSpec.runes (s.data.toList.drop i)).map Prod.fst).map R32
  | 0, i, acc, h => by
    have e : s.data.toList.drop i = [] := List.eq_nil_of_length_eq_zero (by omega)
    rw [e]
    simp [Conv.runesFrom, UtSpec.runes_nil]
  | b + 1, i, acc, h => by
    rw [Conv.runesFrom]
    have hsz : s.size = s.data.toList.length := by simp
    by_cases hi : i < s.size
    · rw [if_pos hi]
      have hne : s.data.toList.drop i ≠ [] := fun e => by
        have := congrArg List.length e
        rw [List.length_drop, List.length_nil] at this
        omega
      have hd := UtSpec.dec_len hne
      rw [UtSpec.decode_dec]
      rw [runesFrom_eq s b _ _ (by rw [List.length_drop] at *; omega)]
      rw [UtSpec.runes_cons hne, List.drop_drop]
      simp [R32]
    · rw [if_neg hi]
      have e : s.data.toList.drop i = [] := List.eq_nil_of_length_eq_zero (by rw [List.length_drop]; omega)
      rw [e]
      simp [UtSpec.runes_nil]
theorem runes_all (s : ByteArray) : Conv.runesFrom s s.size 0 #[] = ((runesOf s.data.toList).map R32).toArray := by
  apply Array.ext'
  rw [runesFrom_eq s s.size 0 #[] (by simp), List.drop_zero]
  simp [runesOf]
theorem run_runes (s : ByteArray) (hs : s.size ≤ 128) (w : World) : ∃ c, (runesOf s.data.toList).length ≤ c ∧ c ≤ maxLen ∧ (convert 9 31 (.string s)).run Try.prog w = .ok (.slice (some ⟨w.heap.size, 0, none⟩) (runesOf s.data.toList).length c)
    (w.drew.alloc (.cells (((runesOf s.data.toList).map R32).toArray ++ Array.replicate (c - (runesOf s.data.toList).length) (.int .i32 0)) 21)) := by
  have hl : (runesOf s.data.toList).length ≤ 128 := by
    have h1 := runesOf_len s.data.toList
    have h2 : s.size = s.data.toList.length := by simp
    omega
  have h := run_runes_of_string (P := Try.prog) w 9 31 21 s Try.underlying9 Try.underlying31 Try.underlying21 (by rw [runes_all]; simp; omega)
  rw [runes_all] at h
  simp only [List.size_toArray, List.length_map] at h
  refine ⟨_, grownCap_ge w _ 0 21, grownCap_le_maxLen w _ 0 21 (by unfold maxLen; omega), h⟩
/-- The reader at its start, in block w.heap.size. -/
theorem rq_new {w : World} {B q c : Nat} {rs : List Nat} {F : Array Value} {e : TypeId} (hB : B ≤ w.heap.size) (hq : w.heap[q]? = some (.cells ((rs.map R32).toArray ++ F) e (0, 0))) (h1 : rs.length ≤ c) (h2 : c ≤ maxLen) :
    RQ B (w.alloc (.cells (qcells (some ⟨q, 0, none⟩, rs.length, c) (.slice none 0 0) 0 0) 45)) (K0 w) 0 w.heap.size (some ⟨q, 0, none⟩, rs.length, c) rs 0 0 [] (.slice none 0 0) := by
  have hlt : q < w.heap.size := (Array.getElem?_eq_some_iff.1 hq).1
  refine ⟨hB, if_pos rfl, heap_alloc_new w _, ⟨by simp, h1, h2, fun hl => ⟨q, 0, rfl, ?_, fun j u hj => ?_⟩, fun b off e _ => ?_⟩, World.ownsRow_nil _ _ _ _, (fun b e => by cases e), fun m hm => by cases hm⟩
  · show q < (w.heap.push _).size
    rw [Array.size_push]; omega
  · have h3 : (w.alloc (.cells (qcells (some ⟨q, 0, none⟩, rs.length, c) (.slice none 0 0) 0 0) 45)).heap[q]? = some (.cells ((rs.map R32).toArray ++ F) e (0, 0)) := by rw [← hq]; exact ((Below.refl _ w).alloc (Nat.le_refl _) _).block q hlt
    rw [Nat.zero_add]
    refine RxMem.cell_of_row h3 ?_
    have hjl := (List.getElem?_eq_some_iff.1 hj).1
    rw [Array.getElem?_append_left (by simpa using hjl)]
    simpa using hj
  · simp only at e
    injection e with e
    injection e with e _
    unfold K0
    rw [if_neg (by omega)]
    exact ⟨by omega, by omega⟩
end Go.Proofs.Ytdmbgjpidlllcaa.RqInit

namespace Go.Proofs.Ytdmbgjpidlllcaa.RqCatch
open Go Go.RowKit Words RxMem RqNeed
set_option maxHeartbeats 1600000 in
set_option maxRecDepth 100000 in
theorem catch_panicking (pt pe : Nat) (t u : Value) (w : World) (ht : w.cell? ⟨pt, 0, none⟩ = some t) (hft : w.frozen? ⟨pt, 0, none⟩ = false) (hpe : w.cell? ⟨pe, 0, none⟩ = some u) (hfu : w.frozen? ⟨pe, 0, none⟩ = false) (hn : pt ≠ pe) (h1 : pt < w.heap.size) (h2 : pe < w.heap.size) :
    CallsD Try.prog 16 #[.pointer (some ⟨pt, 0, none⟩), .pointer (some ⟨pe, 0, none⟩)] (.panicking FCH) w fun e u' w' =>
      e = .returned (.tuple #[]) ∧ u' = .panicking [{ v := .iface 42 (.agg #[]), recovered := true }] ∧ Below w.heap.size ((w.setCell ⟨pt, 0, none⟩ (.slice none 0 0)).setCell ⟨pe, 0, none⟩ (.int .i64 40)) w' := by
  unfold FCH
  refine callsD_of_wpS Try.func16 rfl fun c₀ cs hu => ?_
  apply wpS_seq
  apply wpS_region
  simp [wpOpsS, go_sem, recoverD, hu, Try.ntmps16, Exit.thenS]
  refine wpS_of_wp ?_
  rw [show (#[Value.pointer (some ⟨pt, 0, none⟩), Value.pointer (some ⟨pe, 0, none⟩)] ++ ((Array.replicate 13 undef).setIfInBounds 3 (Value.iface 42 (Value.agg #[]))).setIfInBounds 0 (Value.iface 42 (Value.agg #[])) : Array Value) = #[.pointer (some ⟨pt, 0, none⟩), .pointer (some ⟨pe, 0, none⟩), .iface 42 (Value.agg #[]), undef, undef, .iface 42 (Value.agg #[]), undef, undef, undef, undef, undef, undef, undef, undef, undef] from rfl]
  have hta : ∀ w : World, (Instr.typeAssert (.iface 42 (.agg #[])) 20 42 true).run Try.prog w = .ok (.tuple #[.agg #[], .bool true]) w := fun _ => by kernel_rfl
  go_wp2
  simp [bodyPostS, results, Try.results16, go_sem]
  exact (Below.refl _ _).alloc (by simp [World.size_setCell]) _
set_option maxHeartbeats 1600000 in
set_option maxRecDepth 100000 in
theorem catch_idle (pt pe : Nat) (w : World) :
    CallsD Try.prog 16 #[.pointer (some ⟨pt, 0, none⟩), .pointer (some ⟨pe, 0, none⟩)] .returning w fun e u' w' => e = .returned (.tuple #[]) ∧ u' = .returning ∧ Below w.heap.size w w' := by
  refine callsD_of_wpS Try.func16 rfl fun c₀ cs hu => ?_
  apply wpS_seq
  apply wpS_region
  simp [wpOpsS, go_sem, recoverD, hu, Try.ntmps16, Exit.thenS]
  refine wpS_of_wp ?_
  rw [show (#[Value.pointer (some ⟨pt, 0, none⟩), Value.pointer (some ⟨pe, 0, none⟩)] ++ ((Array.replicate 13 undef).setIfInBounds 3 Value.nilIface).setIfInBounds 0 Value.nilIface : Array Value) = #[.pointer (some ⟨pt, 0, none⟩), .pointer (some ⟨pe, 0, none⟩), Value.nilIface, undef, undef, Value.nilIface, undef, undef, undef, undef, undef, undef, undef, undef, undef] from rfl]
  have hta : ∀ w : World, (Instr.typeAssert .nilIface 20 42 true).run Try.prog w = .ok (.tuple #[.agg #[], .bool false]) w := fun _ => by kernel_rfl
  have hne : ∀ w : World, (binOp .neq 20 .nilIface .nilIface).run Try.prog w = .ok (.bool false) w := fun _ => by kernel_rfl
  go_wp2
  simp only [bodyPostS]
  simp [results, Try.results16, go_sem]
  exact ⟨.returning, by cases c₀; simp_all, rfl, (Below.refl _ _).alloc (Nat.le_refl _) _⟩
end Go.Proofs.Ytdmbgjpidlllcaa.RqCatch

